"""DEEDS: what is done to FILES, the LINES that tell them, and the BLOCKS that hold these."""

from flutterheld.errors import Full, NoFile, Taken
from flutterheld.forms import is_tuple_of
from flutterheld.groups import is_text, many_parts, parts_of, signs_in, spread

LETTERS = "abcdefghijklmnopqrstuvwxyz"
DIGITS = "0123456789"
MOST_IN_NAME = 12
MOST_SIGNS = 2000


def is_name(thing):
    if not isinstance(thing, str) or not 1 <= len(thing) <= MOST_IN_NAME:
        return False
    return thing[0] in LETTERS and all([sign in LETTERS + DIGITS for sign in thing])


def is_short_text(thing):
    """Whether any value is a TEXT that a file may hold."""
    return isinstance(thing, str) and len(thing) <= MOST_SIGNS and is_text(thing)


def is_couple(thing):
    return is_tuple_of(2, thing) and is_name(thing[0]) and is_short_text(thing[1])


def are_couples(thing):
    if not isinstance(thing, tuple) or not all([is_couple(part) for part in thing]):
        return False
    return all([one[0] < other[0] for one, other in zip(thing, thing[1:])])


def is_deed(thing):
    """Whether any value is a DEED."""
    if not isinstance(thing, tuple) or thing == ():
        return False
    word, *rest = thing
    if word == "put":
        return is_couple(tuple(rest))
    if word == "rename":
        return len(rest) == 2 and is_name(rest[0]) and is_name(rest[1])
    if word == "strike":
        return len(rest) == 1 and is_name(rest[0])
    return word == "all" and len(rest) == 1 and are_couples(rest[0])


def is_files(thing):
    """Whether any value is FILES."""
    return isinstance(thing, dict) and all([is_couple(couple) for couple in thing.items()])


def led(files, deed):
    """The FILES behind a DEED."""
    if deed[0] == "all":
        return {name: text for name, text in deed[1]}
    word, name, *rest = deed
    left = {other: files[other] for other in files if other != name}
    if word == "put":
        left[name] = rest[0]
    elif name not in files:
        raise NoFile(name)
    elif word == "rename":
        if rest[0] in files:
            raise Taken(rest[0])
        left[rest[0]] = files[name]
    return {other: left[other] for other in sorted(left)}


def all_led(deeds):
    """The FILES to which DEEDS lead no FILES."""
    files = {}
    for deed in deeds:
        files = led(files, deed)
    return files


def line_of(deed):
    """The LINE of a DEED."""
    word, *rest = deed
    if word == "put":
        return f"p{rest[0]} {rest[1]}"
    if word == "strike":
        return f"s{rest[0]}"
    if word == "rename":
        return f"r{rest[0]} {rest[1]}"
    return "a" + "".join([f"{name} {len(text)} {text}" for name, text in rest[0]])


def deed_of(line):
    """The DEED of which a string is the LINE, None if there is none."""
    word, rest = line[:1], line[1:]
    name, blank, other = rest.partition(" ")
    deed = None
    if word == "p" and blank == " ":
        deed = ("put", name, other)
    elif word == "s":
        deed = ("strike", rest)
    elif word == "r":
        deed = ("rename", name, other)
    elif word == "a":
        deed = ("all", couples_in(rest))
    return deed if is_deed(deed) else None


def couples_in(line):
    """The couples that stand one behind the other in what an "all" tells, None if it tells none."""
    couples, at = [], 0
    while at < len(line):
        name_end = line.find(" ", at)
        number_end = line.find(" ", name_end + 1)
        number = line[name_end + 1:max(0, number_end)]
        if name_end < 0 or not is_number(number):
            return None
        end = number_end + 1 + int(number)
        # A TEXT that is cut short.
        if end > len(line):
            return None
        couples.append((line[at:name_end], line[number_end + 1:end]))
        at = end
    return tuple(couples)


def is_number(word):
    """Whether a string is an integer from 0 on as Python shows it, of at most nine digits."""
    if not 1 <= len(word) <= 9 or not all([sign in DIGITS for sign in word]):
        return False
    return word == "0" or word[0] != "0"


def line_that_fits(form, deed):
    """The LINE of a DEED, if the PARTS hold it."""
    line = line_of(deed)
    if len(line) > signs_in(form):
        raise Full()
    return line


def blocks_of(form, epoch, number, deed):
    """The BLOCKS of a DEED, part by part, place by place."""
    parts = parts_of(form, line_that_fits(form, deed))
    blocks = []
    for part, words in enumerate(parts):
        is_last = part == len(parts) - 1
        for place, word in enumerate(spread(form, words)):
            blocks.append((epoch, number, part, is_last, place, word))
    return tuple(blocks)


def slots_for(form, deed):
    """How many BLOCKS a DEED has."""
    return many_parts(form, len(line_that_fits(form, deed))) * (form[2] + form[3])
