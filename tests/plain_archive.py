"""What the tests of fields, groups, reels and archives share: plain ways beside the clever ones, and FORMATS."""

import re

from flutterheld.blocks import width_of
from flutterheld.hearings import hearing_of
from tests import plain

SIGNS = [chr(code) for code in range(32, 127) if code != 37] + ["\n"]

# LET BY; a part holds 2, 4, 6 and 100 signs.
SHORT = ((90, (1, 2), (1, 1), 5, 9, 1), 96, 2, 1)
BARE = ((18, (1, 2), (1, 1), 2, 3, 1), 110, 1, 0)
MIDDLE = ((60, (1, 2), (1, 1), 2, 3, 2), 106, 3, 2)
WIDE = ((60, (1, 2), (1, 1), 2, 3, 2), 240, 10, 5)
LET_BY = (SHORT, BARE, MIDDLE, WIDE)
# ROOMY, but not LET BY.
STILL = ((4, (0, 1), (0, 1), 1, 2, 1), 44, 2, 1)
# As many places as there may be.
LONG = ((4, (0, 1), (0, 1), 1, 2, 1), 60, 12, 3)

NAMES = ("a", "b", "c", "a1", "z9z", "abcdefghijkl")


def spare_of(form):
    return form[3]


def wide(form):
    return form[2] + form[3]


def some_text(chance, most):
    return "".join(chance.choice(SIGNS) for _ in range(chance.randint(0, most)))


def some_word(chance, form):
    return tuple(chance.choice((0, 94, 96, chance.randint(0, 96))) for _ in range(width_of(form)))


def some_deed(chance, most, names=NAMES):
    kind = chance.choice(("put", "put", "strike", "rename", "all"))
    if kind == "put":
        return ("put", chance.choice(names), some_text(chance, most))
    if kind == "strike":
        return ("strike", chance.choice(names))
    if kind == "rename":
        return ("rename", chance.choice(names), chance.choice(names))
    return ("all", tuple((name, some_text(chance, most)) for name in sorted(chance.sample(names, chance.randint(0, min(3, len(names)))))))


# The field, by Python's own inverse.

def value_by_products(points, at):
    """The sum of products that are 0 at all but one of the POINTS."""
    total = 0
    for one, value in points:
        part = value
        for other, _ in points:
            if other != one:
                part = part * (at - other) * pow(one - other, -1, 97)
        total += part
    return total % 97


def group_by_products(form, known):
    """The one GROUP that has the known WORDS of many places."""
    return tuple(tuple(value_by_products([(place, word[index]) for place, word in known.items()], at)
                       for index in range(width_of(form))) for at in range(wide(form)))


def parts_by_hand(form, text):
    many, width = form[2], width_of(form)
    symbols = [SIGNS.index(sign) for sign in text]
    while not symbols or len(symbols) % (many * width):
        symbols.append(96)
    words = [tuple(symbols[at:at + width]) for at in range(0, len(symbols), width)]
    return tuple(tuple(words[at:at + many]) for at in range(0, len(words), many))


# FILES and DEEDS.

class Stopped(Exception):
    """No file of this name, or one that is there."""


def led_by_hand(files, deed):
    files = dict(files)
    if deed[0] == "put":
        files[deed[1]] = deed[2]
    elif deed[0] == "all":
        files = dict(deed[1])
    elif deed[1] not in files:
        raise Stopped("none", deed[1])
    elif deed[0] == "strike":
        del files[deed[1]]
    elif deed[2] in files:
        raise Stopped("taken", deed[2])
    else:
        files[deed[2]] = files.pop(deed[1])
    return dict(sorted(files.items()))


def files_behind(deeds):
    files = {}
    for deed in deeds:
        files = led_by_hand(files, deed)
    return files


def line_by_hand(deed):
    if deed[0] == "all":
        return "a" + "".join(name + " " + str(len(text)) + " " + text for name, text in deed[1])
    return deed[0][0] + " ".join(deed[1:])


NAME = "[a-z][a-z0-9]{0,11}"
TEXT = "[ -$&-~\n]{0,2000}"


def deed_by_hand(line):
    for word, form in (("put", f"p({NAME}) ({TEXT})"), ("strike", f"s({NAME})"), ("rename", f"r({NAME}) ({NAME})")):
        found = re.fullmatch(form, line)
        if found:
            return (word,) + found.groups()
    if not line.startswith("a"):
        return None
    couples, rest = [], line[1:]
    while rest:
        head = re.match(f"({NAME}) (0|[1-9][0-9]*) ", rest)
        if not head:
            return None
        text = rest[head.end():head.end() + int(head[2])]
        if len(text) < int(head[2]) or not re.fullmatch(TEXT, text) or (couples and head[1] <= couples[-1][0]):
            return None
        couples.append((head[1], text))
        rest = rest[head.end() + int(head[2]):]
    return ("all", tuple(couples))


def blocks_by_hand(form, epoch, number, deed):
    parts = parts_by_hand(form, line_by_hand(deed))
    return [(epoch, number, part, part == len(parts) - 1, place, word) for part, words in enumerate(parts)
            for place, word in enumerate(group_by_products(form, dict(enumerate(words))))]


# EPOCHS, read as DOC.md tells.

def group_told(form, epoch, number, part, slots):
    """The first many WORDS and is_last, None if the group is not READ."""
    if len(slots) < wide(form):
        return None
    known, lasts = {}, set()
    for behind, block in enumerate(slots):
        if block is not None and block[0] == epoch and block[1] == number and block[2] == part and block[4] == behind:
            known[behind] = block[5]
            lasts.add(block[3])
    if len(known) < form[2] or len(lasts) != 1:
        return None
    least = {place: known[place] for place in sorted(known)[:form[2]]}
    return group_by_products(form, least)[:form[2]], lasts.pop()


def epoch_told(form, epoch, reel_told):
    deeds, place = [], 0
    while len(deeds) < 256:
        at, symbols, is_last = place, [], False
        while not is_last:
            found = group_told(form, epoch, len(deeds), (at - place) // wide(form), reel_told[at:at + wide(form)])
            if found is None:
                return tuple(deeds), place
            words, is_last = found
            symbols += [symbol for word in words for symbol in word]
            at += wide(form)
        while symbols and symbols[-1] == 96:
            symbols.pop()
        text = "".join(SIGNS[symbol] if symbol < 95 else "%" for symbol in symbols)
        # One part alone may be empty; otherwise the last one is not.
        parts = max(1, -(-len(text) // (form[2] * width_of(form))))
        deed = deed_by_hand(text) if parts == (at - place) // wide(form) else None
        if deed is None or (deed[0] == "all") != (not deeds):
            return tuple(deeds), place
        try:
            files_behind(deeds + [deed])
        except Stopped:
            return tuple(deeds), place
        deeds.append(deed)
        place = at
    return tuple(deeds), place


def opened_by_hand(form, told):
    found = [(epoch,) + epoch_told(form, epoch, told[epoch % 2]) for epoch in range(64)]
    found = [state for state in found if state[1]]
    return found[-1] if found else None


# What is heard.

def some_night_of(chance, bounds, slot, harm):
    """An item of a NIGHT: RIDES and shifts by chance, or swaying and as great as may be."""
    cells, marks = sum(slot), len(slot) + 1
    if chance.random() < 0.5:
        telling = ((chance.randint(-9, 9), 1), plain.swayed(bounds, cells, chance.randint(0, 6), chance.randint(0, 6)))
        return (telling, plain.greatest_shifts(bounds, marks, chance.choice((1, -1))), harm)
    return (plain.some_telling(chance, bounds, cells), plain.some_shifts(chance, bounds, marks), harm)


def some_mild_harm(chance, form, slot, telling, shifts):
    """A MILD HARM that is one, by chance: marks missed behind the LEAD or ahead of the TAIL, or clicks there."""
    lead, marks = form[0][5], len(slot) + 1
    is_full = plain.is_full(form, slot)
    kinds = ["missed behind"] if marks > lead + 1 else []
    kinds += ["missed"] if marks <= lead else []
    kinds += ["missed ahead", "clicks behind", "clicks ahead"] if is_full else []
    if not kinds:
        return ("missed", ())
    kind = chance.choice(kinds)
    if kind.startswith("missed"):
        first, last = {"missed": (0, marks), "missed behind": (lead + 1, marks), "missed ahead": (0, marks - lead - 1)}[kind]
        return ("missed", tuple(sorted(chance.sample(range(first, last), min(last - first, chance.randint(1, 3))))))
    heard = [plain.fraction(moment) for moment in hearing_of(telling, slot, shifts)]
    by = [chance.randint(1, 40 * form[0][0]) / plain.Fraction(7) for _ in range(chance.randint(1, 3))]
    if kind == "clicks behind":
        return ("clicks", tuple(map(plain.told, sorted({heard[lead] + part for part in by}))))
    return ("clicks", tuple(map(plain.told, sorted({heard[-1 - lead] - part for part in by}))))
