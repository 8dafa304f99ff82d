"""Archives: FILES that are kept on a Deck, DEED by DEED, and may be cut at any STEP."""

from flutterheld.blockread import read_slots
from flutterheld.blocks import DEEDS, EPOCHS, full_row
from flutterheld.deeds import all_led, blocks_of, is_name, is_short_text, led
from flutterheld.epochs import is_let_by, mends, opened
from flutterheld.errors import Cut, Full, NotLetBy, NotMended, Wrong
from flutterheld.forms import is_hearing, is_tuple_of
from flutterheld.reels import Deck


def are_heard(many, thing):
    """Whether any value is a tuple of two tuples of many HEARINGS."""
    if not is_tuple_of(2, thing) or not is_tuple_of(many, thing[0]) or not is_tuple_of(many, thing[1]):
        return False
    return all([is_hearing(part) for part in thing[0] + thing[1]])


class Archive:
    """What is kept on a twin of a Deck, by what is heard of it."""

    def __init__(self, deck, heard):
        if not isinstance(deck, Deck):
            raise Wrong(0)
        if not are_heard(deck.many(), heard):
            raise Wrong(1)
        form = deck.form()
        if not is_let_by(form):
            raise NotLetBy()
        self._deck = deck.twin()
        self._told = (read_slots(form, heard[0]), read_slots(form, heard[1]))
        # What opened tells of it, brought up to date by each DEED that is done.
        self._state = opened(form, self._told)
        self._files = all_led(self.deeds())
        self._mended = False
        # Where a call was cut, as (which, place).
        self._cut_at = None

    def epoch(self):
        return None if self._state is None else self._state[0]

    def deeds(self):
        return () if self._state is None else self._state[1]

    def files(self):
        return dict(self._files)

    def room(self):
        """How many SLOTS are left behind the DEEDS."""
        return self._deck.many() - self._place()

    def _place(self):
        return 0 if self._state is None else self._state[2]

    def deck(self):
        return self._deck.twin()

    def is_mended(self):
        return self._mended

    def is_cut(self):
        return self._cut_at is not None

    def set_fuse(self, fuse):
        self._deck.set_fuse(fuse)

    def twin(self):
        nothing = ((),) * self._deck.many()
        other = Archive(self._deck, (nothing, nothing))
        other._told = self._told
        other._state = self._state
        other._files = self.files()
        other._mended = self._mended
        other._cut_at = self._cut_at
        return other

    def __eq__(self, other):
        if not isinstance(other, Archive) or self._deck != other._deck or self._state != other._state:
            return False
        return self._mended == other._mended and self.is_cut() == other.is_cut()

    def mend(self):
        """Makes the Deck bear just what was told at first."""
        self._check_cut()
        if not self._mended:
            self._do_all(mends(self._deck.form(), self._told))
            self._mended = True

    def put(self, name, text):
        if not is_name(name):
            raise Wrong(0)
        if not is_short_text(text):
            raise Wrong(1)
        self._do(("put", name, text))

    def strike(self, name):
        if not is_name(name):
            raise Wrong(0)
        self._do(("strike", name))

    def rename(self, name, new):
        if not is_name(name):
            raise Wrong(0)
        if not is_name(new):
            raise Wrong(1)
        self._do(("rename", name, new))

    def _check_cut(self):
        if self._cut_at is not None:
            which, place = self._cut_at
            raise Cut(which, place)

    def _do(self, deed):
        self._check_cut()
        if not self._mended:
            raise NotMended()
        files = led(self._files, deed)
        epoch, deeds, blocks = self._way_on(deed) or self._way_over(files)
        begin = 0 if len(deeds) == 1 else self._place()
        self._do_all([(epoch % 2, begin + at, block) for at, block in enumerate(blocks)])
        self._state = (epoch, deeds, begin + len(blocks))
        self._files = files

    def _way_on(self, deed):
        """The tuple (epoch, deeds, blocks) of writing a DEED behind the others, None if it cannot be."""
        if self._state is None or len(self.deeds()) == DEEDS:
            return None
        try:
            blocks = blocks_of(self._deck.form(), self.epoch(), len(self.deeds()), deed)
        except Full:
            return None
        return (self.epoch(), self.deeds() + (deed,), blocks) if len(blocks) <= self.room() else None

    def _way_over(self, files):
        """The tuple (epoch, deeds, blocks) of going over to the next EPOCH, that begins with all FILES."""
        epoch = 0 if self._state is None else self.epoch() + 1
        deed = ("all", tuple([(name, files[name]) for name in sorted(files)]))
        if epoch == EPOCHS:
            raise Full()
        blocks = blocks_of(self._deck.form(), epoch, 0, deed)
        if len(blocks) > self._deck.many():
            raise Full()
        return (epoch, (deed,), blocks)

    def _do_all(self, works):
        """Writes or clears (which, place, block or None), one behind the other."""
        form = self._deck.form()
        try:
            for which, place, block in works:
                if block is None:
                    self._deck.clear(which, place)
                else:
                    self._deck.write(which, place, full_row(form, block))
        except Cut as error:
            self._cut_at = (error.which, error.place)
            raise
