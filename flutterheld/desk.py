"""A desk: an Archive on a new Deck, led by lines."""

from flutterheld.archive import Archive
from flutterheld.blockread import told
from flutterheld.deeds import is_name, is_number, is_short_text
from flutterheld.errors import NoCommand, NoFile, Wrong
from flutterheld.heads import calm, calm_reel
from flutterheld.reels import Deck, is_reel_number, marks_in

# What stands behind the word of each command but put.
ARGUMENTS = {
    "strike": ("name",),
    "rename": ("name", "name"),
    "files": (),
    "read": ("name",),
    "state": (),
    "fuse": ("fuse",),
    "steps": (),
    "open": (),
    "night": ("reel", "place"),
    "reel": ("reel",),
}


def command_of(line, many):
    """The list of the word and the arguments of a command, of a desk with REELS of many SLOTS."""
    if "\n" in line:
        raise NoCommand()
    begun = line.lstrip(" ")
    if begun.startswith("put "):
        return put_command(begun[4:].lstrip(" "))
    words = [word for word in line.split(" ") if word]
    if not words or words[0] not in ARGUMENTS:
        raise NoCommand()
    kinds = ARGUMENTS[words[0]]
    if len(words) != len(kinds) + 1:
        raise NoCommand()
    return words[:1] + [argument_of(kind, word, many) for kind, word in zip(kinds, words[1:])]


def put_command(rest):
    """As command_of, of what stands behind put and the blanks behind it."""
    name, _, written = rest.partition(" ")
    text = text_written(written)
    if not is_name(name) or not is_short_text(text):
        raise NoCommand()
    return ["put", name, text]


def text_written(written):
    """The string that is written with line feeds and backslashes as two signs each, None if there is none."""
    found = []
    for part in written.split("\\\\"):
        # Each backslash that is left begins a line feed.
        lines = part.split("\\")
        if not all([line.startswith("n") for line in lines[1:]]):
            return None
        found.append("\n".join(lines[:1] + [line[1:] for line in lines[1:]]))
    return "\\".join(found)


def argument_of(kind, word, many):
    """What a word stands for, as an argument of this kind."""
    if kind == "name" and is_name(word):
        return word
    if kind == "fuse" and word == "off":
        return None
    if is_number(word):
        number = int(word)
        if kind == "fuse" or (kind == "reel" and is_reel_number(number)) or (kind == "place" and number < many):
            return number
    raise NoCommand()


def state_of(archive):
    """The EPOCH, how many DEEDS it has, and the room behind them."""
    epoch = "none" if archive.epoch() is None else str(archive.epoch())
    state = f"{epoch} {len(archive.deeds())} {archive.room()}"
    return f"{state} cut" if archive.is_cut() else state


def lines_of(archive, name):
    """The lines of a file."""
    files = archive.files()
    if name not in files:
        raise NoFile(name)
    return files[name].split("\n")


def slot_line(form, beginning):
    """How many MARKS a SLOT has, and what is told of it."""
    block = told(form, calm(form, beginning))
    if block is None:
        return f"{marks_in(beginning)} lost"
    epoch, deed, part, _, place, _ = block
    return f"{marks_in(beginning)} {epoch} {deed} {part} {place}"


class Desk:
    """What leads an Archive by lines, and may have the Deck heard anew."""

    def __init__(self, form, many):
        deck = Deck(form, many)
        nothing = ((),) * many
        self._many = many
        self._archive = Archive(deck, (nothing, nothing))
        self._archive.mend()

    def execute(self, line):
        """The answer to a line, a list of strings."""
        if not isinstance(line, str):
            raise Wrong(0)
        word, *rest = command_of(line, self._many)
        if word in ("put", "strike", "rename", "fuse"):
            self._do(word, rest)
            return ["done"]
        if word in ("open", "night"):
            self._hear_anew(rest)
        return self._answer(word, rest)

    def _do(self, word, rest):
        if word == "put":
            self._archive.put(rest[0], rest[1])
        elif word == "strike":
            self._archive.strike(rest[0])
        elif word == "rename":
            self._archive.rename(rest[0], rest[1])
        else:
            self._archive.set_fuse(rest[0])

    def _hear_anew(self, lost):
        """Puts the Archive of the Deck as it is in the place of the Archive; lost is a REEL and a place, or nothing."""
        deck = self._archive.deck()
        heard = [list(calm_reel(deck.form(), deck.reel(which))) for which in range(2)]
        if lost:
            heard[lost[0]][lost[1]] = ()
        self._archive = Archive(deck, (tuple(heard[0]), tuple(heard[1])))
        self._archive.mend()

    def _answer(self, word, rest):
        if word == "files":
            return list(self._archive.files())
        if word == "read":
            return lines_of(self._archive, rest[0])
        deck = self._archive.deck()
        if word == "steps":
            return [str(deck.steps())]
        if word == "reel":
            return [slot_line(deck.form(), beginning) for beginning in deck.reel(rest[0])]
        return [state_of(self._archive)]

    def archive(self):
        """An Archive of the Deck as it is, not mended."""
        deck = self._archive.deck()
        return Archive(deck, (calm_reel(deck.form(), deck.reel(0)), calm_reel(deck.form(), deck.reel(1))))

    def deck(self):
        return self._archive.deck()

    def twin(self):
        other = Desk(self._archive.deck().form(), self._many)
        other._archive = self._archive.twin()
        return other

    def __eq__(self, other):
        return isinstance(other, Desk) and self._archive == other._archive
