"""EPOCHS: the DEEDS that are kept on a REEL, one behind the other, and how they are read, restored and mended."""

from flutterheld.blocks import DEEDS, EPOCHS, full_row, many_numbers
from flutterheld.deeds import blocks_of, deed_of, led
from flutterheld.errors import NoFile, Taken
from flutterheld.groups import restored, text_of
from flutterheld.harms import is_watchful

MOST_IN_GROUP = 15


def is_let_by(form):
    """Whether a FORMAT is LET BY."""
    bounds, _, many, spare = form
    # What is quickly told is asked first, as some of these numbers may be as great as one likes.
    if many + spare > MOST_IN_GROUP or 2 * bounds[3] <= bounds[4]:
        return False
    return is_watchful(bounds) and is_roomy(form)


def is_roomy(form):
    """Whether the WIDTH is not 0, found by counting BODIES no farther than has to be."""
    data, lo, most = form[1], form[0][3], form[0][4]
    if lo == most:
        return False
    asked = 1 << (many_numbers(form, 1) - 1).bit_length()
    counts, enough = [1], 0
    # Behind so many numbers in a row that are great enough each one is: it is a sum of some of these.
    while len(counts) <= data and enough < most:
        cells = len(counts)
        counts.append(sum(counts[max(0, cells - most):max(0, cells - lo + 1)]))
        enough = enough + 1 if counts[-1] >= asked else 0
    return counts[-1] >= asked


def read_group(form, head, slots):
    """The tuple (PART, is_last) of a group, head being its (epoch, number, part); None if it is not READ."""
    many, spare = form[2:]
    if len(slots) < many + spare:
        return None
    blocks = [block for place, block in enumerate(slots)
              if block is not None and block[:3] == head and block[4] == place]
    if len(blocks) < many or not all([block[3] == blocks[0][3] for block in blocks]):
        return None
    return (restored(form, {block[4]: block[5] for block in blocks}), blocks[0][3])


def read_deed(form, epoch, number, reel_told, begin):
    """The tuple (deed, the SLOT behind it) of what begins at a SLOT; None if no DEED that may stand there does."""
    wide = form[2] + form[3]
    parts, at, is_last = [], begin, False
    while not is_last:
        group = read_group(form, (epoch, number, len(parts)), reel_told[at:at + wide])
        if group is None:
            return None
        part, is_last = group
        parts.append(part)
        at += wide
    line = text_of(form, tuple(parts))
    deed = None if line is None else deed_of(line)
    if deed is None or (deed[0] == "all") != (number == 0):
        return None
    return (deed, at)


def read_epoch(form, epoch, reel_told):
    """The tuple (deeds, place): the DEEDS that are PRESENT, and the SLOT behind them."""
    deeds, place, files = (), 0, {}
    for number in range(DEEDS):
        found = read_deed(form, epoch, number, reel_told, place)
        if found is None:
            break
        try:
            files = led(files, found[0])
        except (NoFile, Taken):
            break
        deeds = deeds + (found[0],)
        place = found[1]
    return (deeds, place)


def opened(form, told):
    """The tuple (epoch, deeds, place) of the greatest EPOCH some DEED of which is PRESENT, None if there is none."""
    for epoch in reversed(range(EPOCHS)):
        deeds, place = read_epoch(form, epoch, told[epoch % 2])
        if deeds:
            return (epoch, deeds, place)
    return None


def due_blocks(form, state):
    """The list of the BLOCKS of the DEEDS that opened tells, in order."""
    if state is None:
        return []
    epoch, deeds, _ = state
    return [block for number, deed in enumerate(deeds) for block in blocks_of(form, epoch, number, deed)]


def mends(form, told):
    """The list of what is to be done so that just what opened tells is left: (which, place, block or None)."""
    state = opened(form, told)
    which = 0 if state is None else state[0] % 2
    blocks = due_blocks(form, state)
    works = [(which, place, block) for place, block in enumerate(blocks) if told[which][place] != block]
    works = works + [(which, place, None) for place in range(len(blocks), len(told[which]))]
    return works + [(1 - which, place, None) for place in range(len(told[1 - which]))]


def due_reels(form, many, state):
    """The two REELS of many SLOTS of which just what opened tells is told."""
    rows = [full_row(form, block) for block in due_blocks(form, state)]
    kept, bare = tuple(rows) + (None,) * (many - len(rows)), (None,) * many
    return (bare, kept) if state is not None and state[0] % 2 == 1 else (kept, bare)
