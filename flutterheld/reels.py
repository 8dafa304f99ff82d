"""REELS: what SLOTS hold, and how they are led, MARK by MARK, from one BEGINNING to another one."""

from flutterheld.blockread import begins_full
from flutterheld.errors import Cut, Wrong
from flutterheld.forms import is_format, is_full, is_integer, is_row
from flutterheld.pull import is_sum_of_runs

MOST_SLOTS = 400


def is_beginning(form, thing):
    """Whether any value is a BEGINNING of a FULL ROW, of a FORMAT with BODIES."""
    return thing is None or (is_row(form[0], thing) and begins_full(form, thing))


def marks_in(beginning):
    return 0 if beginning is None else len(beginning) + 1


def first_marks(beginning, marks):
    """What is left of a BEGINNING if it keeps so many MARKS."""
    return None if marks == 0 else beginning[:marks - 1]


def shared_marks(one, other):
    """How many first MARKS two BEGINNINGS share."""
    if one is None or other is None:
        return 0
    marks = 1
    for run, other_run in zip(one, other):
        if run != other_run:
            break
        marks += 1
    return marks


def way_between(one, other):
    """How many MARKS are taken, and then put, to lead from one BEGINNING to another one."""
    shared = shared_marks(one, other)
    return (marks_in(one) - shared, marks_in(other) - shared)


def stages_between(one, other):
    """The list of what the SLOT holds behind each STEP from one BEGINNING to another one."""
    taken, put = way_between(one, other)
    shared = marks_in(one) - taken
    stages = [first_marks(one, shared + left) for left in reversed(range(taken))]
    return stages + [first_marks(other, shared + more) for more in range(1, put + 1)]


def is_reel_number(thing):
    return is_integer(thing) and 0 <= thing <= 1


class Deck:
    """Two REELS of many SLOTS each, with a fuse, perhaps, that lets it do but so many STEPS."""

    def __init__(self, form, many):
        # BODIES are not counted here: data may be any number.
        if not is_format(form) or not is_sum_of_runs(form[0], form[1]):
            raise Wrong(0)
        if not is_integer(many) or not 1 <= many <= MOST_SLOTS:
            raise Wrong(1)
        self._form = form
        self._many = many
        self._reels = [[None] * many, [None] * many]
        self._steps = 0
        self._fuse = None

    def form(self):
        return self._form

    def many(self):
        return self._many

    def reel(self, which):
        """The tuple of the BEGINNINGS of a REEL."""
        if not is_reel_number(which):
            raise Wrong(0)
        return tuple(self._reels[which])

    def steps(self):
        return self._steps

    def fuse(self):
        """How many STEPS may still be done, None without a fuse."""
        return self._fuse

    def set_fuse(self, fuse):
        if fuse is not None and not (is_integer(fuse) and fuse >= 0):
            raise Wrong(0)
        self._fuse = fuse

    def write(self, which, place, row):
        """Leads a SLOT to a FULL ROW."""
        self._check(which, place)
        if not is_full(self._form, row):
            raise Wrong(2)
        self._lead(which, place, row)

    def clear(self, which, place):
        """Leads a SLOT to no MARKS."""
        self._check(which, place)
        self._lead(which, place, None)

    def _check(self, which, place):
        if not is_reel_number(which):
            raise Wrong(0)
        if not is_integer(place) or not 0 <= place < self._many:
            raise Wrong(1)

    def _lead(self, which, place, aim):
        stages = stages_between(self._reels[which][place], aim)
        done = len(stages)
        if self._fuse is not None:
            done = min(done, self._fuse)
            self._fuse = self._fuse - done
        if done > 0:
            self._reels[which][place] = stages[done - 1]
            self._steps = self._steps + done
        if done < len(stages):
            raise Cut(which, place)

    def twin(self):
        other = Deck(self._form, self._many)
        other._reels = [list(reel) for reel in self._reels]
        other._steps = self._steps
        other._fuse = self._fuse
        return other

    def __eq__(self, other):
        if not isinstance(other, Deck) or self._form != other._form or self._many != other._many:
            return False
        return self._reels == other._reels and self._fuse == other._fuse
