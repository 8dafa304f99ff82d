import random
import time
import unittest

from flutterheld.archive import Archive
from flutterheld.blocks import block_of_row, full_row
from flutterheld.desk import Desk
from flutterheld.errors import Cut, Full, NoCommand, NoFile, NotLetBy, TapeError, Taken, Wrong
from flutterheld.reels import Deck, marks_in
from tests.plain import ODD, deep, nearly
from tests.plain_archive import BARE, LET_BY, SHORT, SIGNS, STILL, WIDE, Stopped, files_behind, led_by_hand, some_text
from tests.test_archive import Model, borne, calm_of, new_archive, opened_anew, said


def written(text):
    return "".join({"\n": "\\n", "\\": "\\\\"}.get(sign, sign) for sign in text)


def stand(desk):
    return [borne(desk.deck()), said(desk.archive()), desk.execute("state"), desk.execute("files")]


class TestLines(unittest.TestCase):
    """Promise 41: what lines do, and what they answer."""

    def raises(self, desk, line, kind, **fields):
        before = stand(desk)
        with self.assertRaises(TapeError) as caught:
            desk.execute(line)
        self.assertIs(type(caught.exception), kind, line)
        for field, value in fields.items():
            self.assertEqual(getattr(caught.exception, field), value)
        if kind is not Cut:
            self.assertEqual(stand(desk), before)

    def test_at_first(self):
        for form in LET_BY:
            desk = Desk(form, 40)
            self.assertEqual([desk.execute(line) for line in ("state", "files", "steps")], [["none 0 40"], [], ["0"]])
            self.assertEqual([desk.execute(f"reel {which}") for which in range(2)], [["0 lost"] * 40] * 2)
            self.assertTrue(desk.deck() == Deck(form, 40))
            # Mended: a DEED is done at once.
            self.assertEqual(desk.execute("put a"), ["done"])

    def test_against_a_model(self):
        chance = random.Random(190)
        found = set()
        for form, many in ((SHORT, 40), (BARE, 60), (LET_BY[2], 40)):
            desk, model = Desk(form, many), Model(form, many)
            for _ in range(60):
                kind = chance.choice(("put", "put", "strike", "rename"))
                names = [chance.choice("abc") for _ in range(2)]
                deed = ("put", names[0], some_text(chance, 8)) if kind == "put" else (kind,) + tuple(names[:2 if kind == "rename" else 1])
                line = f"put {deed[1]} {written(deed[2])}" if kind == "put" else " ".join(deed)
                try:
                    model.do(deed)
                    self.assertEqual(desk.execute(line), ["done"])
                    found.add(kind)
                except Stopped as stopped:
                    word, name = stopped.args
                    self.raises(desk, line, {"none": NoFile, "taken": Taken, "full": Full}[word])
                    found.add(word)
                if chance.random() < 0.2:
                    self.assertEqual(desk.execute("open"), desk.execute("state"))
                    for which, reel in enumerate(model.reels):
                        # Mending takes away what stood behind, and on the other REEL.
                        begin = model.place if which == (model.epoch or 0) % 2 else 0
                        reel[begin:] = [None] * (many - begin)
                files = files_behind(model.deeds)
                epoch = "none" if model.epoch is None else str(model.epoch)
                self.assertEqual(desk.execute("state"), [f"{epoch} {len(model.deeds)} {many - model.place}"])
                self.assertEqual(desk.execute("files"), sorted(files))
                for name in "abc":
                    if name in files:
                        self.assertEqual(desk.execute("read " + name), files[name].split("\n"))
                    else:
                        self.raises(desk, "read " + name, NoFile, name=name)
                self.assertEqual([desk.deck().reel(which) for which in range(2)], [tuple(reel) for reel in model.reels])
                for which in range(2):
                    self.assertEqual(desk.execute(f"reel {which}"), [self.slot_line(form, slot) for slot in model.reels[which]])
                self.assertEqual(desk.execute("steps"), [str(desk.deck().steps())])
                self.assertEqual(said(desk.archive())[:4], model.said()[:4])
                found.add(("epoch", model.epoch))
        self.assertTrue({"put", "strike", "rename", "none", "taken", "full", ("epoch", 0), ("epoch", 1), ("epoch", 2)} <= found)

    def slot_line(self, form, slot):
        block = None if slot is None else block_of_row(form, slot)
        if block is None:
            return f"{marks_in(slot)} lost"
        return " ".join(map(str, (marks_in(slot),) + block[:3] + (block[4],)))

    def test_texts(self):
        for rest, text in (("a", ""), ("a ", ""), ("a  ", " "), ("a x", "x"), ("a  x ", " x "), ("a x  y", "x  y"), ("a \\n", "\n"), ("a \\\\", "\\"),
                           ("a \\\\n", "\\n"), ("a \\\\\\n", "\\\n"), ("a \\\\\\\\", "\\\\"), ("a \\n\\n", "\n\n"), ("a x\\ny\\\\z", "x\ny\\z"), ("a put b", "put b"),
                           ("a " + "x" * 2000, "x" * 2000), ("a " + "\\n" * 1000, "\n" * 1000), ("a nn\\nn", "nn\nn")):
            desk = Desk(WIDE, 400)
            for before in ("put ", "  put   "):
                self.assertEqual(desk.execute(before + rest), ["done"])
                self.assertEqual(desk.archive().files(), {"a": text})
                self.assertEqual(desk.execute(" read  a "), text.split("\n"))

    def test_each_sign(self):
        desk = Desk(WIDE, 60)
        text = "".join(SIGNS)
        self.assertEqual(desk.execute("put a " + written(text)), ["done"])
        self.assertEqual(desk.archive().files(), {"a": text})

    def test_blanks_between_words_and_at_both_ends(self):
        desk = Desk(SHORT, 60)
        for line, answer in (("  put   a   ", ["done"]), ("put b x", ["done"]), ("   strike    b ", ["done"]), (" rename  a   c  ", ["done"]),
                             ("files ", ["c"]), ("  files", ["c"]), (" read   c ", ["  "]), ("  state  ", ["0 4 33"]), (" fuse   7 ", ["done"]),
                             (" fuse  off  ", ["done"]), ("  open ", ["0 4 33"]), (" night  1   59  ", ["0 4 33"]), (" reel   1 ", ["0 lost"] * 60)):
            self.assertEqual(desk.execute(line), answer, line)

    def test_no_commands(self):
        desk = Desk(SHORT, 24)
        desk.execute("put a x")
        for line in ("", " ", "   ", "put", "put ", "put  ", "put A x", "put A", "put 1 x", "put a% x", "put a x%", "put " + "a" * 13, "put a \\", "put a \\x", "put a x\\",
                     "put a \\\\\\", "put a \\N", "put a \\ n", "put a " + "x" * 2001, "put a " + "\\n" * 2001, "put a x\ny", "put a\n", "\nput a", "put\na",
                     "strike", "strike A", "strike a b", "strike a\n", "rename a", "rename a B", "rename a b c", "rename", "read", "read a b", "read A", "read ",
                     "files a", "files\n", "state 1", "steps 1", "open 1", "open\n", "fuse", "fuse -1", "fuse 01", "fuse 1 2", "fuse on", "fuse OFF", "fuse +1", "fuse 1.0",
                     "fuse 1234567890", "fuse 1_0", "fuse off off", "fuse x", "fuse None", "night", "night 0", "night 0 24", "night 2 0", "night 0 01", "night 00 0", "night 0 0 0",
                     "night -1 0", "night a 0", "night 0 off", "reel", "reel 2", "reel 00", "reel off", "reel 0 0", "reel -0", "reel 10", "Put a x", "PUT a x", "puta x", "fileS",
                     "done", "exit", "put\\n a", "state cut", "fuses", "nights 0 0", "none", "off", "name", "0", "reel 0\n", "\n", "state\nstate"):
            self.raises(desk, line, NoCommand)

    def test_one_slot_alone(self):
        desk = Desk(BARE, 1)
        for line in ("night 0 1", "night 1 1", "night 0 400", "night 2 0"):
            self.raises(desk, line, NoCommand)
        self.assertEqual([desk.execute(line) for line in ("night 1 0", "reel 1")], [["none 0 1"], ["0 lost"]])

    def test_any_string(self):
        chance = random.Random(191)
        desk = Desk(BARE, 40)
        words = ("put", "strike", "rename", "files", "read", "state", "fuse", "steps", "open", "night", "reel", "a", "b", "0", "1", "40", "off", "", "\\n", "\\", "%", "x\n", "A")
        answered = 0
        for _ in range(600):
            line = " ".join(chance.choice(words) for _ in range(chance.randint(1, 4)))
            try:
                answer = desk.execute(line)
                answered += 1
                self.assertTrue(type(answer) is list and all(type(part) is str for part in answer))
            except TapeError as error:
                self.assertIn(type(error), (NoCommand, NoFile, Taken, Full, Cut))
        self.assertGreater(answered, 20)

    def test_no_string(self):
        desk = Desk(SHORT, 12)
        for thing in list(ODD) + [b"state", ["state"], ("state",), deep(20), desk]:
            if type(thing) is not str:
                self.raises(desk, thing, Wrong, place=0)

    def test_numbers_of_nine_digits(self):
        desk = Desk(SHORT, 12)
        self.assertEqual([desk.execute("fuse 999999999"), desk.deck().fuse()], [["done"], 999999999])
        self.assertEqual([desk.execute("fuse 0"), desk.deck().fuse()], [["done"], 0])
        self.raises(desk, "fuse 1000000000", NoCommand)
        self.assertEqual([desk.execute("fuse off"), desk.deck().fuse()], [["done"], None])

    def test_what_is_told_is_new(self):
        desk = Desk(SHORT, 24)
        desk.execute("put a x\\ny")
        for line in ("files", "read a", "state", "reel 0", "steps"):
            answer = desk.execute(line)
            copy = list(answer)
            answer.clear()
            self.assertEqual(desk.execute(line), copy)


class TestCuts(unittest.TestCase):
    """Promise 41: fuses, open and night."""

    def test_a_cut(self):
        desk = Desk(SHORT, 24)
        desk.execute("put a")
        before = int(desk.execute("steps")[0])
        desk.execute("fuse 20")
        with self.assertRaises(Cut) as caught:
            desk.execute("put b")
        self.assertEqual([caught.exception.which, caught.exception.place], [0, 10])
        self.assertEqual([desk.execute(line) for line in ("state", "files", "steps")], [["0 1 15 cut"], ["a"], [str(before + 20)]])
        # Nothing more is done, whatever the fuse; a line that is none is told as such.
        desk.execute("fuse off")
        for line in ("put b", "strike a", "strike zz", "rename a a"):
            with self.assertRaises(Cut) as caught:
                desk.execute(line)
            self.assertEqual([caught.exception.which, caught.exception.place], [0, 10])
        for line, kind in (("put B", NoCommand), ("read b", NoFile)):
            with self.assertRaises(kind):
                desk.execute(line)
        self.assertEqual([desk.execute("read a"), desk.execute("steps")], [[""], [str(before + 20)]])
        self.assertEqual(desk.execute("open"), ["0 1 15"])
        self.assertEqual([desk.execute("state"), desk.execute("steps")], [["0 1 15"], [str(before + 40)]])
        self.assertEqual([desk.execute("put b"), desk.execute("files")], [["done"], ["a", "b"]])

    def test_open_that_is_cut(self):
        desk = Desk(SHORT, 24)
        desk.execute("put a")
        steps = int(desk.execute("steps")[0])
        desk.execute("fuse 20")
        for line in ("put b", "open"):
            with self.assertRaises(Cut):
                desk.execute(line)
        # The fuse is on the Deck, and stays until it is set anew; the Archive is the new one.
        self.assertEqual([desk.execute("state"), desk.execute("steps"), desk.deck().fuse()], [["0 1 15 cut"], [str(steps + 20)], 0])
        desk.execute("fuse 7")
        with self.assertRaises(Cut) as caught:
            desk.execute("open")
        self.assertEqual([caught.exception.which, caught.exception.place, desk.execute("steps")], [0, 9, [str(steps + 27)]])
        for line in ("put c", "strike a"):
            with self.assertRaises(Cut) as caught:
                desk.execute(line)
            self.assertEqual([caught.exception.which, caught.exception.place], [0, 9])
        self.assertEqual(desk.execute("files"), ["a"])
        desk.execute("fuse 13")
        self.assertEqual([desk.execute("open"), desk.deck().fuse(), desk.execute("steps")], [["0 1 15"], 0, [str(steps + 40)]])
        # Where no STEP lacks, nothing is cut.
        self.assertEqual([desk.execute("open"), desk.execute("night 0 3")], [["0 1 15"]] * 2)
        with self.assertRaises(Cut):
            desk.execute("put c")

    def test_a_cut_that_was_done(self):
        desk = Desk(SHORT, 24)
        other = desk.twin()
        other.execute("put a")
        total = int(other.execute("steps")[0])
        desk.execute(f"fuse {total - 1}")
        with self.assertRaises(Cut):
            desk.execute("put a")
        self.assertEqual([desk.execute("state"), desk.execute("files")], [["none 0 24 cut"], []])
        desk.execute("fuse off")
        self.assertEqual([desk.execute("open"), desk.execute("files"), desk.execute("steps")], [["0 1 15"], ["a"], [str(total)]])

    def test_night(self):
        desk = Desk(SHORT, 24)
        desk.execute("put a")
        desk.execute("put b")
        deck = desk.deck()
        for which in range(2):
            for place in range(24):
                other = desk.twin()
                self.assertEqual(other.execute(f"night {which} {place}"), ["0 2 9"])
                self.assertEqual([other.deck() == deck, other.deck().steps()], [True, deck.steps()])

    def test_night_without_spare(self):
        desk = Desk(BARE, 24)
        desk.execute("put a")
        desk.execute("put b")
        desk.execute("strike a")
        self.assertEqual(desk.execute("state"), ["0 3 20"])
        # The DEED whose BLOCK is lost is taken away, with all behind it.
        other = desk.twin()
        self.assertEqual([other.execute("night 0 2"), other.execute("files")], [["0 1 22"], ["a"]])
        self.assertEqual([slot is None for slot in other.deck().reel(0)], [False] * 2 + [True] * 22)
        other = desk.twin()
        self.assertEqual([other.execute("night 0 0"), other.execute("files"), other.deck().reel(0)], [["none 0 24"], [], (None,) * 24])
        other = desk.twin()
        self.assertEqual([other.execute("night 1 0"), other.execute("night 0 4"), other.execute("files")], [["0 3 20"], ["0 3 20"], ["b"]])
        # Mending is cut behind some STEPS: the Archive is the new one then.
        other = desk.twin()
        other.execute("fuse 5")
        with self.assertRaises(Cut) as caught:
            other.execute("night 0 2")
        self.assertEqual([caught.exception.which, caught.exception.place, other.execute("state")], [0, 2, ["0 1 22 cut"]])

    def test_deeds_cut_at_every_step(self):
        desk = Desk(SHORT, 24)
        for line, deed in (("put a", ("put", "a", "")), ("put a x", ("put", "a", "x")), ("strike a", ("strike", "a"))):
            done = desk.twin()
            done.execute(line)
            steps = int(done.execute("steps")[0]) - int(desk.execute("steps")[0])
            before, behind = opened_anew(desk.deck()).files(), opened_anew(done.deck()).files()
            self.assertEqual(behind, led_by_hand(before, deed))
            for step in range(0, steps, 3):
                other = desk.twin()
                other.execute(f"fuse {step}")
                with self.assertRaises(Cut):
                    other.execute(line)
                self.assertTrue(other.execute("state")[0].endswith(" cut"))
                other.execute("fuse off")
                other.execute("open")
                self.assertIn(other.archive().files(), (before, behind))
                self.assertEqual(other.execute("files"), sorted(other.archive().files()))
                self.assertFalse("cut" in other.execute("state")[0])
            desk = done


class TestDesks(unittest.TestCase):
    """Promise 41: Desks themselves."""

    def test_wrong_arguments(self):
        for thing in list(nearly(SHORT)) + list(ODD) + [deep(20)]:
            try:
                Deck(thing, 1)
                continue
            except Wrong:
                pass
            for many in (1, None):
                with self.assertRaises(Wrong) as caught:
                    Desk(thing, many)
                self.assertEqual(caught.exception.place, 0)
        for form in (SHORT, STILL):
            for thing in list(ODD) + [0, 401, "40", deep(20)]:
                if type(thing) is int and 1 <= thing <= 400:
                    continue
                with self.assertRaises(Wrong) as caught:
                    Desk(form, thing)
                self.assertEqual(caught.exception.place, 1)

    def test_not_let_by(self):
        for form in (STILL, ((60, (1, 2), (1, 1), 2, 3, 2), 20, 2, 1), ((17, (1, 2), (1, 1), 2, 3, 1), 110, 1, 0), ((60, (1, 2), (1, 1), 2, 3, 2), 240, 11, 5),
                     ((60, (1, 2), (1, 1), 2, 3, 2), 10 ** 39, 10 ** 39, 1)):
            with self.assertRaises(NotLetBy):
                Desk(form, 3)
        self.assertEqual(Desk(((60, (1, 2), (1, 1), 2, 3, 2), 10 ** 39, 2, 1), 3).execute("state"), ["none 0 3"])

    def test_archive_and_deck(self):
        desk = Desk(SHORT, 24)
        desk.execute("put a")
        archive = desk.archive()
        self.assertIs(type(archive), Archive)
        self.assertTrue(archive == opened_anew(desk.deck()))
        self.assertEqual(said(archive), [0, (("all", (("a", ""),)),), [("a", "")], 15, False, False])
        archive.mend()
        archive.put("b", "")
        desk.deck().clear(0, 0)
        self.assertEqual([desk.execute("files"), desk.deck().reel(0)[0] is None], [["a"], False])
        # Of the Deck as it is, behind a cut, too.
        desk.execute("fuse 90")
        with self.assertRaises(Cut):
            desk.execute("put bb x")
        self.assertEqual([desk.archive().is_cut(), desk.archive().is_mended(), desk.archive().deck() == desk.deck()], [False, False, True])
        self.assertEqual(desk.archive() == Archive(desk.deck(), calm_of(desk.deck())), True)

    def test_twins(self):
        desk = Desk(SHORT, 24)
        desk.execute("put a")
        desk.execute("fuse 100")
        twin = desk.twin()
        self.assertEqual([stand(twin), twin == desk], [stand(desk), True])
        twin.execute("strike a")
        self.assertEqual([desk.execute("files"), twin.execute("files"), twin == desk], [["a"], [], False])
        desk.execute("strike a")
        self.assertTrue(twin == desk and not twin != desk)
        with self.assertRaises(Cut):
            desk.execute("put b xx")
        twin = desk.twin()
        self.assertEqual([twin == desk, twin.execute("state"), twin.execute("steps")], [True, desk.execute("state"), desk.execute("steps")])
        with self.assertRaises(Cut):
            twin.execute("strike b")

    def test_equal(self):
        one, other = Desk(SHORT, 24), Desk(SHORT, 24)
        self.assertTrue(one == other)
        one.execute("put a")
        self.assertFalse(one == other)
        other.execute("put a")
        self.assertTrue(one == other)
        one.execute("fuse 3")
        self.assertFalse(one == other)
        one.execute("fuse off")
        self.assertTrue(one == other)
        # The STEPS do not count, whether it is cut does.
        one.execute("fuse 0")
        other.execute("fuse 0")
        with self.assertRaises(Cut):
            one.execute("put a")
            one.execute("put b")
        self.assertEqual([one.deck() == other.deck(), one == other], [one.deck().reel(0) == other.deck().reel(0), False])
        self.assertFalse(Desk(SHORT, 24) == Desk(SHORT, 23))
        for thing in ODD + (Deck(SHORT, 24), new_archive(SHORT, 24), "state"):
            self.assertFalse(Desk(SHORT, 24) == thing)

    def test_400_slots_in_time(self):
        start = time.process_time()
        desk = Desk(WIDE, 400)
        for line, answer in (("put a " + "x" * 2000, ["done"]), ("put b " + "y" * 400, ["done"]), ("state", ["0 2 10"]), ("strike b", ["done"]),
                             ("put b " + "z" * 400, ["done"]), ("state", ["1 2 10"]), ("fuse 9", ["done"])):
            self.assertEqual(desk.execute(line), answer)
        self.assertEqual(len(desk.execute("reel 0")), 400)
        with self.assertRaises(Cut) as caught:
            desk.execute("night 1 0")
        self.assertEqual([caught.exception.which, caught.exception.place], [0, 0])
        desk.execute("fuse off")
        self.assertEqual([desk.execute("open"), desk.execute("reel 0"), desk.execute("read b")], [["1 2 10"], ["0 lost"] * 400, ["z" * 400]])
        self.assertTrue(desk.twin() == desk)
        self.assertEqual(full_row(WIDE, block_of_row(WIDE, desk.deck().reel(1)[0])), desk.deck().reel(1)[0])
        self.assertLess(time.process_time() - start, 10)


if __name__ == "__main__":
    unittest.main()
