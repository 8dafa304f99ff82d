import random
import time
import unittest

from flutterheld.archive import Archive
from flutterheld.blockread import read_slots
from flutterheld.blocks import full_row
from flutterheld.deeds import blocks_of, line_of, slots_for
from flutterheld.epochs import due_reels, mends, opened
from flutterheld.errors import Cut, Full, NoFile, NotLetBy, NotMended, TapeError, Taken, Wrong
from flutterheld.groups import signs_in
from flutterheld.heads import calm_reel
from flutterheld.hearer import Hearer
from flutterheld.reels import Deck
from tests.plain import ODD, deep, is_hearing, nearly
from tests.plain_archive import (BARE, LET_BY, NAMES, SHORT, STILL, WIDE, Stopped, files_behind, led_by_hand, some_deed,
                                 wide)

CUT = "cut"


def calm_of(deck):
    return tuple(calm_reel(deck.form(), deck.reel(which)) for which in range(2))


def told_of(deck, heard):
    return tuple(read_slots(deck.form(), one) for one in heard)


def opened_anew(deck):
    return Archive(deck, calm_of(deck))


def new_archive(form, many):
    archive = opened_anew(Deck(form, many))
    archive.mend()
    return archive


def call_of(archive, deed):
    """The call that does a DEED."""
    if deed[0] == "put":
        return lambda: archive.put(deed[1], deed[2])
    if deed[0] == "strike":
        return lambda: archive.strike(deed[1])
    return lambda: archive.rename(deed[1], deed[2])


def said(archive):
    """All that an Archive tells."""
    return [archive.epoch(), archive.deeds(), list(archive.files().items()), archive.room(), archive.is_mended(), archive.is_cut()]


def borne(deck):
    return [deck.reel(0), deck.reel(1), deck.steps(), deck.fuse()]


class Model:
    """An Archive without tape: just what its calls are to do."""

    def __init__(self, form, many):
        self.form, self.many = form, many
        self.epoch, self.deeds, self.place = None, [], 0
        self.reels = [[None] * many, [None] * many]

    def do(self, deed):
        files = led_by_hand(files_behind(self.deeds), deed)
        ways = []
        if self.epoch is not None and len(self.deeds) < 256:
            ways.append((self.epoch, self.deeds + [deed], self.place))
        epoch = 0 if self.epoch is None else self.epoch + 1
        if epoch < 64:
            ways.append((epoch, [("all", tuple(files.items()))], 0))
        for epoch, deeds, place in ways:
            if len(line_of(deeds[-1])) > signs_in(self.form) or place + slots_for(self.form, deeds[-1]) > self.many:
                continue
            for block in blocks_of(self.form, epoch, len(deeds) - 1, deeds[-1]):
                self.reels[epoch % 2][place] = full_row(self.form, block)
                place += 1
            self.epoch, self.deeds, self.place = epoch, deeds, place
            return
        raise Stopped("full", None)

    def said(self):
        return [self.epoch, tuple(self.deeds), list(files_behind(self.deeds).items()), self.many - self.place, True, False]


class TestCalls(unittest.TestCase):
    """Promise 37, by 10: an Archive against going through the DEEDS."""

    def test_against_a_model(self):
        chance = random.Random(160)
        found = set()
        for form, many, length in ((SHORT, 24, 40), (SHORT, 60, 60), (BARE, 40, 60), (LET_BY[2], 40, 60), (WIDE, 60, 40)):
            archive, model = new_archive(form, many), Model(form, many)
            for _ in range(length):
                deed = some_deed(chance, chance.choice((3, 12)), NAMES[:4])
                if deed[0] == "all":
                    continue
                try:
                    model.do(deed)
                    self.assertIsNone(call_of(archive, deed)())
                    found.add(deed[0])
                except Stopped as stopped:
                    word, name = stopped.args
                    with self.assertRaises({"none": NoFile, "taken": Taken, "full": Full}[word]) as caught:
                        call_of(archive, deed)()
                    self.assertEqual(getattr(caught.exception, "name", None), name)
                    found.add(word)
                self.assertEqual(said(archive), model.said())
                self.assertEqual([archive.deck().reel(which) for which in range(2)], [tuple(reel) for reel in model.reels])
                # Whoever opens what stands there is told just the same.
                again = opened_anew(archive.deck())
                self.assertEqual(said(again), model.said()[:4] + [False, False])
            found.add(("epoch", min(3, model.epoch)))
        self.assertTrue({"none", "taken", "full", "put", "strike", "rename", ("epoch", 3)} <= found)

    def test_at_first(self):
        for form in LET_BY:
            archive = opened_anew(Deck(form, 20))
            self.assertEqual(said(archive), [None, (), [], 20, False, False])
            self.assertIsNone(archive.mend())
            self.assertEqual(said(archive), [None, (), [], 20, True, False])
            self.assertEqual(archive.deck().steps(), 0)

    def test_the_order_of_errors(self):
        archive = opened_anew(Deck(SHORT, 9))
        long = "x" * 2001
        # Wrong ahead of NotMended, ahead of NoFile, Taken, and Full.
        self.raises(lambda: archive.put("A", long), Wrong, place=0)
        self.raises(lambda: archive.put("a", long), Wrong, place=1)
        self.raises(lambda: archive.rename("a", ""), Wrong, place=1)
        for call in (lambda: archive.strike("a"), lambda: archive.rename("a", "a"), lambda: archive.put("a", "x" * 2000)):
            self.raises(call, NotMended)
        archive.mend()
        self.raises(lambda: archive.strike("a"), NoFile, name="a")
        self.raises(lambda: archive.rename("a", "a"), NoFile, name="a")
        self.raises(lambda: archive.put("a", "x" * 2000), Full)
        archive.put("a", "")
        self.assertEqual(archive.room(), 0)
        self.raises(lambda: archive.rename("a", "a"), Taken, name="a")
        archive.set_fuse(0)
        self.raises(lambda: archive.put("a", "xxxxx"), Full)
        self.raises(lambda: archive.put("a", "x"), Cut, which=1, place=0)
        # Once more, behind Wrong, ahead of all else.
        self.raises(lambda: archive.put("a", long), Wrong, place=1)
        archive.set_fuse(None)
        for call in (lambda: archive.put("b", ""), lambda: archive.strike("b"), lambda: archive.rename("b", "a"),
                     lambda: archive.put("a", "x" * 2000), archive.mend):
            self.raises(call, Cut, which=1, place=0)
        self.assertEqual([archive.is_cut(), archive.is_mended(), archive.files()], [True, True, {"a": ""}])
        # A call of mend that was cut is told ahead of NotMended.
        deck = archive.deck()
        deck.write(1, 7, full_row(SHORT, (9, 9, 9, True, 2, (9,))))
        deck.set_fuse(3)
        archive = opened_anew(deck)
        for call in (archive.mend, lambda: archive.put("b", ""), archive.mend):
            self.raises(call, Cut, which=1, place=7)
        self.assertEqual([archive.is_cut(), archive.is_mended(), archive.deck().steps()], [True, False, deck.steps() + 3])

    def raises(self, call, kind, **fields):
        with self.assertRaises(TapeError) as caught:
            call()
        self.assertIs(type(caught.exception), kind)
        for field, value in fields.items():
            self.assertEqual(getattr(caught.exception, field), value)

    def test_wrong_arguments_of_calls(self):
        archive = new_archive(SHORT, 12)
        archive.put("a", "x")
        before = said(archive), borne(archive.deck())
        names = list(ODD) + [deep(20), "A", "", "a" * 13, "1a", "a b", "a\n", ("a",), archive]
        for thing in [name for name in names if name != "missed"]:
            for call in (lambda: archive.put(thing, None), lambda: archive.strike(thing), lambda: archive.rename(thing, thing)):
                self.raises(call, Wrong, place=0)
            self.raises(lambda: archive.rename("a", thing), Wrong, place=1)
        for thing in list(ODD) + [deep(20), "%", "x" * 2001, "\t", ["a"]]:
            if not (type(thing) is str and thing in ("", "missed", "1", "a\nb~")):
                self.raises(lambda: archive.put("a", thing), Wrong, place=1)
        for thing in list(ODD) + [-1, "off", deep(20)]:
            if thing is not None and not (type(thing) is int and thing >= 0):
                self.raises(lambda: archive.set_fuse(thing), Wrong, place=0)
        self.assertEqual((said(archive), borne(archive.deck())), before)

    def test_wrong_arguments_of_the_class(self):
        deck = Deck(SHORT, 2)
        deck.write(0, 1, full_row(SHORT, (0, 0, 0, True, 1, (5,))))
        heard = calm_of(deck)
        for thing in list(ODD) + [deep(20), SHORT, Hearer(SHORT[0]), opened_anew(deck), heard]:
            self.raises(lambda: Archive(thing, heard), Wrong, place=0)
            self.raises(lambda: Archive(thing, None), Wrong, place=0)
        short = tuple(tuple(hearing[:3] for hearing in reel) for reel in heard)
        found = []
        for thing in list(nearly(short)) + list(ODD) + [deep(20), heard[0], heard + heard, (heard[0],), (heard[0], heard[1][:1]), [heard[0], heard[1]],
                                                       ((((1, 1), (0, 1)), ()), ((), ())), ((((2, 2),), ()), ((), ())), ((None, ()), ((), ()))]:
            is_right = (type(thing) is tuple and len(thing) == 2 and all(type(reel) is tuple and len(reel) == 2 for reel in thing)
                        and all(is_hearing(hearing) for reel in thing for hearing in reel))
            found.append(is_right)
            if is_right:
                self.assertEqual(Archive(deck, thing).files(), {})
            else:
                self.raises(lambda: Archive(deck, thing), Wrong, place=1)
        self.assertEqual(set(found), {True, False})

    def test_not_let_by(self):
        for form in (STILL, ((60, (1, 2), (1, 1), 2, 3, 2), 20, 2, 1), ((17, (1, 2), (1, 1), 2, 3, 1), 110, 1, 0),
                     ((60, (1, 2), (1, 1), 2, 3, 2), 240, 11, 5), ((60, (1, 2), (1, 1), 2, 3, 10 ** 39), 240, 11, 5)):
            deck = Deck(form, 3)
            self.raises(lambda: Archive(deck, ((),)), Wrong, place=1)
            self.raises(lambda: Archive(deck, (((),) * 3, ((),) * 3)), NotLetBy)

    def test_the_deck_passed_in_stays(self):
        deck = Deck(SHORT, 12)
        archive = opened_anew(deck)
        archive.mend()
        archive.put("a", "x")
        self.assertEqual(deck, Deck(SHORT, 12))
        deck.write(0, 11, full_row(SHORT, (0, 0, 0, True, 0, (5,))))
        self.assertIsNone(archive.deck().reel(0)[11])
        # What deck() returns is a twin, too.
        archive.deck().clear(0, 0)
        archive.deck().set_fuse(0)
        archive.files().clear()
        self.assertEqual([archive.deck().fuse(), archive.files(), opened_anew(archive.deck()).files()], [None, {"a": "x"}, {"a": "x"}])

    def test_twins(self):
        archive = new_archive(SHORT, 24)
        archive.put("a", "x")
        archive.set_fuse(1000)
        twin = archive.twin()
        self.assertEqual([said(twin), borne(twin.deck()), twin == archive], [said(archive), borne(archive.deck()), True])
        twin.put("b", "")
        self.assertEqual([archive.files(), twin.files(), twin == archive], [{"a": "x"}, {"a": "x", "b": ""}, False])
        archive.put("b", "")
        self.assertTrue(twin == archive)
        archive.set_fuse(0)
        with self.assertRaises(Cut):
            archive.strike("a")
        twin = archive.twin()
        self.assertEqual([said(twin), twin == archive], [said(archive), True])
        with self.assertRaises(Cut) as caught:
            twin.mend()
        self.assertEqual([caught.exception.which, caught.exception.place], [0, 15])
        # A twin that is not mended mends what was told at first.
        deck = archive.deck()
        deck.set_fuse(None)
        deck.write(1, 3, full_row(SHORT, (9, 9, 9, True, 2, (9,))))
        archive = opened_anew(deck)
        twin = archive.twin()
        twin.mend()
        self.assertEqual([twin.deck().reel(1), archive.deck().reel(1) == deck.reel(1), archive.is_mended()], [(None,) * 24, True, False])
        archive.mend()
        self.assertTrue(twin == archive)

    def test_equal(self):
        form = SHORT

        def made():
            return new_archive(form, 24)

        one, other = made(), made()
        self.assertTrue(one == other and not one != other)
        one.put("a", "")
        self.assertFalse(one == other)
        other.put("a", "")
        self.assertTrue(one == other)
        one.set_fuse(5)
        self.assertFalse(one == other)
        one.set_fuse(None)
        self.assertFalse(one == opened_anew(one.deck()))
        self.assertTrue(opened_anew(one.deck()) == opened_anew(other.deck()))
        # One Deck, but other things heard.
        heard = calm_of(one.deck())
        self.assertFalse(Archive(one.deck(), heard) == Archive(one.deck(), (((),) * 24,) * 2))
        # One is cut, the other one is not, and bears just the same.
        deck = one.deck()
        deck.set_fuse(0)
        one, other = opened_anew(deck), opened_anew(deck)
        one.mend()
        other.mend()
        self.assertTrue(one == other)
        with self.assertRaises(Cut):
            one.put("b", "")
        self.assertEqual([borne(one.deck()) == borne(other.deck()), one == other], [True, False])
        for thing in ODD + (Deck(form, 24), "Archive"):
            self.assertFalse(made() == thing)


class TestRoom(unittest.TestCase):
    """Promise 37: where a DEED is written to."""

    def test_the_next_epoch_if_there_is_no_room(self):
        archive = new_archive(SHORT, 12)
        for deed, epoch, room, deeds in ((("put", "a", "x"), 0, 3, (("all", (("a", "x"),)),)),
                                         (("put", "a", "y"), 1, 3, (("all", (("a", "y"),)),)),
                                         (("strike", "a"), 1, 0, (("all", (("a", "y"),)), ("strike", "a"))),
                                         (("put", "b", ""), 2, 3, (("all", (("b", ""),)),)),
                                         (("rename", "b", "c"), 3, 3, (("all", (("c", ""),)),)),
                                         (("strike", "c"), 3, 0, (("all", (("c", ""),)), ("strike", "c"))),
                                         (("put", "d", "x"), 4, 3, (("all", (("d", "x"),)),))):
            call_of(archive, deed)()
            self.assertEqual([archive.epoch(), archive.room(), archive.deeds()], [epoch, room, deeds])
        # All FILES are too many for a REEL.
        with self.assertRaises(Full):
            archive.put("e", "x")
        self.assertEqual([archive.epoch(), archive.room(), archive.files()], [4, 3, {"d": "x"}])

    def test_behind_epoch_63_there_is_none(self):
        archive, model = new_archive(BARE, 3), Model(BARE, 3)
        for at in range(200):
            deed = ("put", "a", "xyz"[at % 3])
            try:
                model.do(deed)
            except Stopped:
                break
            call_of(archive, deed)()
            self.assertEqual(said(archive), model.said())
        self.assertEqual([at, archive.epoch(), archive.room()], [64, 63, 1])
        with self.assertRaises(Full):
            call_of(archive, deed)()
        # What there is room for is still done.
        archive.strike("a")
        self.assertEqual([archive.epoch(), archive.room(), archive.files()], [63, 0, {}])
        with self.assertRaises(Full):
            archive.put("a", "")

    def test_256_deeds(self):
        # One SLOT for each DEED: the number would be above 255 behind so many, though there is room.
        form = ((60, (1, 2), (1, 1), 2, 3, 2), 160, 1, 0)
        archive, model = new_archive(form, 300), Model(form, 300)
        for at in range(258):
            deed = ("put", "a", "") if at % 2 == 0 else ("strike", "a")
            call_of(archive, deed)()
            model.do(deed)
            if at >= 253:
                self.assertEqual(said(archive), model.said())
            if at == 255:
                self.assertEqual([archive.epoch(), len(archive.deeds()), archive.room()], [0, 256, 44])
                self.assertEqual(opened_anew(archive.deck()).deeds(), archive.deeds())
        self.assertEqual([archive.epoch(), len(archive.deeds()), archive.room()], [1, 2, 298])
        self.assertEqual(opened_anew(archive.deck()).deeds(), archive.deeds())

    def test_where_blocks_of_raises_full(self):
        self.assertEqual(signs_in(BARE), 192)
        archive = new_archive(BARE, 70)
        archive.put("a", "x" * 96)
        archive.put("b", "y" * 96)
        self.assertEqual([archive.epoch(), archive.room()], [0, 3])
        # There is no room, and all FILES are too many signs.
        with self.assertRaises(Full):
            archive.put("c", "z" * 10)
        archive.put("c", "z" * 6)
        archive = new_archive(BARE, 400)
        archive.put("a", "x" * 96)
        # There is room, but the LINE is too long.
        with self.assertRaises(Full):
            archive.put("c", "z" * 190)
        archive.put("c", "z" * 189)
        self.assertEqual([archive.epoch(), archive.room()], [0, 400 - 34 - 64])

    def test_a_deed_too_long_for_blocks_goes_over_to_none(self):
        archive = new_archive(SHORT, 400)
        archive.put("a", "")
        with self.assertRaises(Full):
            archive.put("b", "x" * signs_in(SHORT))
        self.assertEqual([archive.epoch(), archive.files()], [0, {"a": ""}])


def stages_of(archive, deed):
    """How many STEPS a DEED takes."""
    twin = archive.twin()
    before = twin.deck().steps()
    call_of(twin, deed)()
    return twin.deck().steps() - before


class TestCuts(unittest.TestCase):
    """Promise 37, of 9: each DEED cut at EVERY STEP, opened, mended, the mending cut too."""

    def check_mended(self, archive, files):
        """An Archive that has just been mended bears what is due, and is opened so again."""
        deck = archive.deck()
        state = None if archive.epoch() is None else (archive.epoch(), archive.deeds(), archive.deck().many() - archive.room())
        self.assertEqual((deck.reel(0), deck.reel(1)), due_reels(deck.form(), deck.many(), state))
        self.assertEqual([archive.is_mended(), archive.is_cut(), archive.files()], [True, False, files])
        steps = deck.steps()
        archive.mend()
        self.assertEqual(archive.deck().steps(), steps)

    def cut_at(self, archive, deed, step):
        """The Deck of an Archive that was cut behind so many STEPS of a DEED."""
        twin = archive.twin()
        twin.set_fuse(step)
        before = said(twin)
        with self.assertRaises(Cut) as caught:
            call_of(twin, deed)()
        self.assertEqual(said(twin), before[:5] + [True])
        with self.assertRaises(Cut) as again:
            twin.mend()
        self.assertEqual([again.exception.which, again.exception.place], [caught.exception.which, caught.exception.place])
        deck = twin.deck()
        self.assertEqual([deck.fuse(), deck.steps()], [0, archive.deck().steps() + step])
        deck.set_fuse(None)
        return deck

    def check_cuts(self, archive, deed, mending):
        """A DEED cut at every STEP; mending tells how far apart the STEPS are at which mending it is cut."""
        without, with_it = archive.files(), led_by_hand(archive.files(), deed)
        found = []
        for step in range(stages_of(archive, deed)):
            deck = self.cut_at(archive, deed, step)
            house = opened_anew(deck)
            found.append(house.files() == with_it)
            self.assertIn(house.files(), (without, with_it))
            settled = house.files()
            for stop in range(0, 400, mending) if step % mending == 0 else ():
                other = deck.twin()
                other.set_fuse(stop)
                cut = opened_anew(other)
                try:
                    cut.mend()
                    break
                except Cut:
                    self.assertEqual([cut.is_cut(), cut.is_mended(), cut.deck().steps()], [True, False, deck.steps() + stop])
                rest = cut.deck()
                rest.set_fuse(None)
                house = opened_anew(rest)
                # What was PRESENT is as readable as it was.
                self.assertEqual(house.files(), settled)
                house.mend()
                self.check_mended(house, settled)
            house = opened_anew(deck)
            house.mend()
            self.check_mended(house, settled)
            if step % 9 == 0 and deck.many() > 9:
                # Whatever was left behind it, the next DEED is done.
                house.put("d", "")
                self.assertEqual(opened_anew(house.deck()).files(), led_by_hand(settled, ("put", "d", "")))
        if without != with_it:
            # As long as less than many BLOCKS stand there, it is not done; and it never is undone again.
            self.assertEqual(found, sorted(found))
            self.assertFalse(found[0])

    def test_every_step(self):
        for form, many, deeds in ((SHORT, 60, (("put", "a", "x"), ("put", "b", ""), ("rename", "a", "c"), ("strike", "b"))),
                                  (BARE, 40, (("put", "a", ""), ("strike", "a"))),
                                  (LET_BY[2], 40, (("put", "a", ""), ("strike", "a")))):
            archive = new_archive(form, many)
            for deed in deeds:
                self.check_cuts(archive, deed, 29)
                call_of(archive, deed)()

    def test_over_what_stood_there(self):
        # The EPOCH 2 over the EPOCH 0, and 3 over 1: there is room for just a few DEEDS.
        archive = new_archive(SHORT, 9)
        overs = 0
        for deed in (("put", "a", ""), ("put", "a", "x"), ("put", "a", "y"), ("strike", "a"), ("put", "b", ""), ("strike", "b")):
            behind = archive.twin()
            call_of(behind, deed)()
            if behind.epoch() != archive.epoch() and behind.epoch() > 1:
                overs += 1
                self.assertNotIn(behind.deck().reel(behind.epoch() % 2)[0], (None, archive.deck().reel(behind.epoch() % 2)[0]))
                self.check_cuts(archive, deed, 41)
            archive = behind
        self.assertEqual(overs, 3)

    def test_mending_cut_at_every_step(self):
        archive = new_archive(SHORT, 24)
        archive.put("a", "x")
        deed = ("put", "b", "")
        total = stages_of(archive, deed)
        for step in (total // 3, total - 9, total - 1):
            deck = self.cut_at(archive, deed, step)
            settled = opened_anew(deck).files()
            stop = 0
            while True:
                other = deck.twin()
                other.set_fuse(stop)
                cut = opened_anew(other)
                try:
                    cut.mend()
                    break
                except Cut:
                    stop += 1
                rest = cut.deck()
                self.assertEqual([opened_anew(rest).files(), rest.fuse()], [settled, 0])
            self.assertGreater(stop, 0)
            self.assertEqual(cut.files(), settled)

    def test_mend_does_what_mends_tells(self):
        chance = random.Random(161)
        for _ in range(20):
            archive = new_archive(SHORT, 30)
            for at in range(chance.randint(0, 4)):
                archive.put("ab"[at % 2], "x" * at)
            deck = archive.deck()
            for _ in range(4):
                block = (chance.choice((0, 1, 2)), chance.randint(0, 3), 0, True, chance.randint(0, 2), (chance.randint(0, 96),))
                row = full_row(SHORT, block)
                which, place = chance.randint(0, 1), chance.randint(0, 29)
                if deck.reel(which)[place] is None:
                    deck.set_fuse(chance.randint(1, 30))
                    try:
                        deck.write(which, place, row)
                    except Cut:
                        pass
            deck.set_fuse(None)
            heard = [list(reel) for reel in calm_of(deck)]
            heard[chance.randint(0, 1)][chance.randint(0, 29)] = ()
            heard = (tuple(heard[0]), tuple(heard[1]))
            plain = deck.twin()
            for which, place, block in mends(SHORT, told_of(deck, heard)):
                plain.clear(which, place) if block is None else plain.write(which, place, full_row(SHORT, block))
            house = Archive(deck, heard)
            self.assertEqual(house.deck(), deck)
            house.mend()
            self.assertEqual([house.deck(), house.deck().steps()], [plain, plain.steps()])
            self.assertEqual(house.files(), Archive(plain, calm_of(plain)).files())

    def test_set_fuse_lifts_no_cut(self):
        archive = new_archive(SHORT, 24)
        archive.set_fuse(5)
        with self.assertRaises(Cut):
            archive.put("a", "")
        for fuse in (None, 1000):
            self.assertIsNone(archive.set_fuse(fuse))
            self.assertEqual([archive.deck().fuse(), archive.is_cut()], [fuse, True])
            with self.assertRaises(Cut):
                archive.put("a", "")
            self.assertEqual(archive.deck().steps(), 5)


class TestTold(unittest.TestCase):
    """Promise 37: what an Archive tells is what opened tells of what is heard."""

    def test_some(self):
        chance = random.Random(162)
        for form, many in ((SHORT, 36), (LET_BY[2], 40)):
            archive = new_archive(form, many)
            for at in range(4):
                archive.put("abc"[at % 3], "xy" * (at % 2))
            deck = archive.deck()
            for _ in range(25):
                heard = tuple(tuple(() if chance.random() < 0.1 else hearing for hearing in reel) for reel in calm_of(deck))
                state = opened(form, told_of(deck, heard))
                house = Archive(deck, heard)
                if state is None:
                    self.assertEqual(said(house), [None, (), [], many, False, False])
                else:
                    files = list(files_behind(state[1]).items())
                    self.assertEqual(said(house), [state[0], state[1], files, many - state[2], False, False])

    def test_each_lot_of_losses_up_to_spare(self):
        form = LET_BY[2]
        archive = new_archive(form, 40)
        archive.put("a", "xy")
        archive.put("b", "12345678")
        deck, chance = archive.deck(), random.Random(163)
        filled = [place for place in range(40) if deck.reel(0)[place] is not None]
        for _ in range(20):
            lost = {begin + at for begin in range(0, len(filled), wide(form)) for at in chance.sample(range(wide(form)), form[3])}
            calm = calm_of(deck)
            heard = (tuple(() if place in lost else hearing for place, hearing in enumerate(calm[0])), calm[1])
            house = Archive(deck, heard)
            self.assertEqual(said(house)[:4], said(archive)[:4])
            house.mend()
            self.assertEqual([house.deck(), house.deck().steps()], [deck, deck.steps()])

    def test_400_slots_in_time(self):
        archive = new_archive(WIDE, 400)
        start = time.process_time()
        archive.put("a", "x" * 2000)
        archive.put("b", "y" * 400)
        self.assertEqual([archive.epoch(), archive.room()], [0, 400 - 315 - 75])
        archive.strike("b")
        self.assertEqual([archive.epoch(), archive.room()], [1, 85])
        archive.put("b", "y" * 400)
        deck = archive.deck()
        self.assertEqual([sum(row is not None for row in deck.reel(which)) for which in (0, 1)], [390, 390])
        house = opened_anew(deck)
        self.assertEqual(said(house)[:4], said(archive)[:4])
        house.mend()
        self.assertEqual(house.deck().reel(0), (None,) * 400)
        self.assertTrue(house.twin() == house)
        self.assertLess(time.process_time() - start, 5)


if __name__ == "__main__":
    unittest.main()
