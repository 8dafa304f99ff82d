import random
import time
import unittest

from flutterheld.blocks import is_block, width_of
from flutterheld.deeds import all_led, blocks_of, deed_of, is_deed, is_files, led, line_of, slots_for
from flutterheld.errors import Full, NoFile, Taken
from flutterheld.groups import is_group, signs_in, text_of
from tests.plain import ODD, deep, nearly
from tests.plain_archive import (BARE, LET_BY, NAMES, SHORT, SIGNS, WIDE, Stopped, blocks_by_hand, deed_by_hand, files_behind,
                                 led_by_hand, line_by_hand, parts_by_hand, some_deed, some_text, wide)

DEEDS = (("put", "a", "so 1"), ("put", "abcdefghijkl", ""), ("strike", "b2"), ("rename", "a", "b"), ("rename", "a", "a"),
         ("all", ()), ("all", (("a", "x y"), ("b2", ""))), ("all", (("a", ""), ("aa", "1 2"), ("b", "\n~"))))
FILES = ({}, {"a": ""}, {"b": "2", "a": "1"}, {"z9": "~\n", "a" * 12: "x" * 2000})


def is_name(thing):
    return (type(thing) is str and 1 <= len(thing) <= 12 and thing[0] in "abcdefghijklmnopqrstuvwxyz"
            and set(thing) <= set("abcdefghijklmnopqrstuvwxyz0123456789"))


def is_text(thing):
    return type(thing) is str and len(thing) <= 2000 and set(thing) <= set(SIGNS)


def is_deed_by_hand(thing):
    if type(thing) is not tuple or not thing or type(thing[0]) is not str:
        return False
    if thing[0] == "put":
        return len(thing) == 3 and is_name(thing[1]) and is_text(thing[2])
    if thing[0] in ("strike", "rename"):
        return len(thing) == (2 if thing[0] == "strike" else 3) and all(map(is_name, thing[1:]))
    if thing[0] != "all" or len(thing) != 2 or type(thing[1]) is not tuple:
        return False
    if not all(type(part) is tuple and len(part) == 2 and is_name(part[0]) and is_text(part[1]) for part in thing[1]):
        return False
    return list(thing[1]) == sorted(dict(thing[1]).items()) and len(dict(thing[1])) == len(thing[1])


def nearly_deeds():
    for deed in DEEDS:
        yield from nearly(deed)
        for name in ("", "A", "1a", "a" * 13, "a b", "a_", "a-", "a\n", "a ", " a", "aB", "0"):
            yield (deed[0], name) + deed[2:]
            yield deed[:1] + (deed[1], name)
        for text in ("a%", "x" * 2001, "\t", "%", "\x7f", "\x1f", None, 1, ("a",), b"a"):
            yield (deed[0], deed[1], text)
            yield ("all", (("a", text),))
    for couples in ((("b", ""), ("a", "")), (("a", ""), ("a", "")), (("a", ""), ("a", "x")), [("a", "")], (["a", ""],), (("a",),),
                    (("a", "", ""),), {"a": ""}, "a", ("a", "")):
        yield ("all", couples)
    yield from (("put",), ("all",), ("strike",), ("", "a"), ("Put", "a", ""), ("put", "a", "", ""), (("put",), "a", ""), (b"put", "a", ""))


class TestForms(unittest.TestCase):
    """Promise 35: is_deed and is_files of any value."""

    def test_is_deed(self):
        found = []
        for thing in list(DEEDS) + list(nearly_deeds()) + list(ODD) + [deep(20)]:
            self.assertIs(is_deed(thing), is_deed_by_hand(thing), thing)
            found.append(is_deed(thing))
        self.assertGreater(min(found.count(True), found.count(False)), 20)

    def test_all_signs_of_names_and_texts(self):
        for code in range(256):
            sign = chr(code)
            self.assertIs(is_deed(("strike", sign)), sign in "abcdefghijklmnopqrstuvwxyz")
            self.assertIs(is_deed(("strike", "a" + sign)), sign in "abcdefghijklmnopqrstuvwxyz0123456789")
            self.assertIs(is_deed(("put", "a", sign)), sign in SIGNS)
            self.assertIs(is_files({"a": "x" + sign}), sign in SIGNS)
        for sign in ("\u00b2", "\u00df", "\u0663", "\u00aa"):
            self.assertEqual([is_deed(("strike", "a" + sign)), is_deed(("put", "a", sign))], [False, False])

    def test_lengths(self):
        self.assertEqual([is_deed(("strike", "a" * many)) for many in (0, 1, 12, 13)], [False, True, True, False])
        for deed in (lambda text: ("put", "a", text), lambda text: ("all", (("a", text),))):
            self.assertEqual([is_deed(deed("x" * many)) for many in (0, 2000, 2001, 3000)], [True, True, False, False])
        self.assertEqual([is_files({"a": "x" * many}) for many in (0, 2000, 2001)], [True, True, False])

    def test_is_files(self):
        for files in FILES:
            self.assertIs(is_files(files), True)
        for thing in list(ODD) + [deep(20), {"A": ""}, {"": ""}, {"a": None}, {"a": 1}, {1: "a"}, {("a",): "b"}, {"a": "%"}, {"a" * 13: ""},
                                  {"a": "", "B": ""}, {None: ""}, {True: ""}, [("a", "")], (("a", ""),), {"a": ["b"]}, {"a": {"a": ""}}]:
            self.assertIs(is_files(thing), thing == {}, thing)


class TestLed(unittest.TestCase):
    """Promise 35: what DEEDS do to FILES."""

    def test_some(self):
        chance = random.Random(140)
        found = []
        for _ in range(600):
            names = chance.sample(NAMES, chance.randint(0, 5))
            files = {name: some_text(chance, 4) for name in names}
            before, deed = list(files.items()), some_deed(chance, 5)
            try:
                behind = led_by_hand(files, deed)
            except Stopped as stopped:
                word, name = stopped.args
                with self.assertRaises(NoFile if word == "none" else Taken) as caught:
                    led(files, deed)
                self.assertEqual(caught.exception.name, name)
                found.append(word)
            else:
                self.assertEqual(list(led(files, deed).items()), list(behind.items()))
                found.append(deed[0])
            self.assertEqual(list(files.items()), before)
        self.assertEqual(set(found), {"none", "taken", "put", "strike", "rename", "all"})

    def test_what_is_raised(self):
        files = {"b": "2", "a": "1"}
        for deed, error, name in ((("strike", "c"), NoFile, "c"), (("rename", "c", "a"), NoFile, "c"), (("rename", "c", "c"), NoFile, "c"),
                                  (("rename", "a", "b"), Taken, "b"), (("rename", "a", "a"), Taken, "a")):
            with self.assertRaises((NoFile, Taken)) as caught:
                led(files, deed)
            self.assertEqual([type(caught.exception), caught.exception.name], [error, name])

    def test_what_is_told_is_new(self):
        files = {"b": "2", "a": "1"}
        for deed in (("put", "a", "1"), ("put", "c", ""), ("strike", "b"), ("rename", "b", "az"), ("all", (("a", "1"), ("b", "2")))):
            behind = led(files, deed)
            self.assertIsNot(behind, files)
            self.assertEqual(list(behind), sorted(behind))
            behind["x"] = "y"
            self.assertEqual(list(files.items()), [("b", "2"), ("a", "1")])

    def test_all_led(self):
        chance = random.Random(141)
        self.assertEqual(all_led(()), {})
        for _ in range(60):
            deeds, files = [], {}
            for _ in range(12):
                deed = some_deed(chance, 3)
                try:
                    files = led_by_hand(files, deed)
                    deeds.append(deed)
                except Stopped as stopped:
                    with self.assertRaises(NoFile if stopped.args[0] == "none" else Taken):
                        all_led(tuple(deeds) + (deed, ("put", "a", "")))
            self.assertEqual(list(all_led(tuple(deeds)).items()), list(files_behind(deeds).items()))


class TestLines(unittest.TestCase):
    """Promise 35: the LINE of a DEED, and back."""

    def test_there_and_back(self):
        chance = random.Random(142)
        lines = {}
        for deed in list(DEEDS) + [some_deed(chance, chance.choice((2, 9, 40))) for _ in range(400)]:
            line = line_of(deed)
            self.assertEqual([line, deed_of(line)], [line_by_hand(deed), deed])
            # No two DEEDS have one LINE.
            self.assertEqual(lines.setdefault(line, deed), deed)

    def test_nearly_lines(self):
        chance = random.Random(143)
        signs, found = "abprs 0123\n%A", []
        for deed in list(DEEDS) + [some_deed(chance, 6, ("a", "b", "a1")) for _ in range(80)]:
            line = line_of(deed)
            for _ in range(30):
                at = chance.randint(0, len(line))
                other = line[:at] + chance.choice(("", chance.choice(signs), chance.choice(signs) * 2)) + line[at + chance.choice((0, 1, 1)):]
                self.assertEqual(deed_of(other), deed_by_hand(other), other)
                found.append(deed_of(other) is None)
        self.assertGreater(min(found.count(True), found.count(False)), 200)

    def test_short_strings_by_trying_all(self):
        edge = [""]
        for _ in range(5):
            edge = [line + sign for line in edge for sign in "apsr 01"]
            for line in edge:
                deed = deed_by_hand(line)
                self.assertEqual(deed_of(line), deed)
                if deed is not None:
                    self.assertEqual(line_of(deed), line)

    def test_no_lines(self):
        for line in ("", "p", "pa", "p a", "pA x", "pa x%", "P x", "s", "s ", "sab ", "s a", "sab c", "ra", "ra ", "ra b ", "ra b c", "r a b",
                     "aa 4 x y", "aa 2 x y", "aa 03 x y", "aa  3 x y", "aa 3x y", "aa -1 ", "aa +3 x y", "aa 3", "aa 0", "aa", "a ", "aa 1 xb",
                     "ab 0 a 0 ", "aa 0 a 0 ", "aa 0 a 1 x", "aa 1 %", "aa \u00b2 xx", "aa \u0663 abc", "aa 00 ", "aa " + "9" * 30 + " x", "x", "%",
                     "a0 0 x", "a0 1 xy", "a1 0 0 x", "a 0 0 0", "aa 0 0 0 x"):
            self.assertIsNone(deed_of(line), line)

    def test_texts_of_2000_signs_and_more(self):
        for line, most in ((lambda text: "pa " + text, 2000), (lambda text: f"aa {len(text)} {text}", 2000)):
            self.assertEqual([deed_of(line("x" * many)) is None for many in (most, most + 1)], [False, True])
        long = ("all", tuple((f"f{at:03}", "y" * 2000) for at in range(60)))
        start = time.process_time()
        self.assertEqual(deed_of(line_of(long)), long)
        many = ("all", tuple((f"f{at:05}", "") for at in range(9000)))
        self.assertEqual(deed_of(line_of(many)), many)
        self.assertLess(time.process_time() - start, 3)


class TestBlocks(unittest.TestCase):
    """Promise 35: the BLOCKS of a DEED."""

    def test_by_hand(self):
        chance = random.Random(144)
        for form in LET_BY:
            for _ in range(6):
                deed = some_deed(chance, 20, ("a", "b"))
                if len(line_of(deed)) > signs_in(form):
                    continue
                epoch, number = chance.randint(0, 63), chance.randint(0, 255)
                blocks = blocks_of(form, epoch, number, deed)
                self.assertEqual(list(blocks), blocks_by_hand(form, epoch, number, deed))
                self.assertTrue(all(is_block(form, block) for block in blocks))
                self.assertEqual(slots_for(form, deed), len(blocks))

    def test_parts_and_places(self):
        for form in LET_BY:
            room = form[2] * width_of(form)
            for signs in (3, room, room + 1, 64 * room - 1, 64 * room):
                deed = ("put", "a", "x" * (signs - 3))
                blocks = blocks_of(form, 5, 6, deed)
                parts = len(parts_by_hand(form, line_of(deed)))
                self.assertEqual([len(blocks), slots_for(form, deed)], [parts * wide(form)] * 2)
                self.assertEqual([block[:5] for block in blocks],
                                 [(5, 6, part, part == parts - 1, place) for part in range(parts) for place in range(wide(form))])
                groups = [tuple(block[5] for block in blocks[at:at + wide(form)]) for at in range(0, len(blocks), wide(form))]
                self.assertTrue(all(is_group(form, group) for group in groups))
                self.assertEqual(text_of(form, tuple(group[:form[2]] for group in groups)), line_of(deed))

    def test_full(self):
        for form in LET_BY[:3]:
            most = signs_in(form) - 3
            self.assertLess(most, 2000)
            self.assertEqual(slots_for(form, ("put", "a", "x" * most)), 64 * wide(form))
            for deed in (("put", "a", "x" * (most + 1)), ("put", "ab", "x" * most), ("all", (("a", "x" * most),))):
                for call in (lambda: blocks_of(form, 0, 0, deed), lambda: slots_for(form, deed)):
                    with self.assertRaises(Full):
                        call()
        couples = tuple((f"f{at}", "x" * 2000) for at in range(4))
        self.assertGreater(len(line_of(("all", couples))), signs_in(WIDE))
        with self.assertRaises(Full):
            slots_for(WIDE, ("all", couples))
        self.assertEqual(slots_for(WIDE, ("all", couples[:3])), 61 * 15)

    def test_is_last_in_the_last_part_alone(self):
        blocks = blocks_of(BARE, 0, 0, ("strike", "abcdef"))
        self.assertEqual([block[3] for block in blocks], [False] * (len(blocks) - 1) + [True])
        self.assertEqual([type(block[3]) for block in blocks], [bool] * len(blocks))
        self.assertEqual(len(blocks_of(SHORT, 0, 0, ("strike", "a"))), 3)


if __name__ == "__main__":
    unittest.main()
