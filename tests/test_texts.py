"""Searcher.written and Searcher.read."""

import re
import unittest

from tests.plain import Draws, any_values, caterpillar, drawn_tree, tells
from wordskips.errors import BadLine, SkipsError, TooMany
from wordskips.makers import made
from wordskips.searchers import Searcher

ONE = "ab 2\nread 1 [a: go 1 0, b: read 0 [a: tell 0 go 2 0, b: go 2 0]]"
TWO = "ba 8\ngo 9 1\ntell 2 read 8 [b: go 1 0, a: tell 0 go 3 2]\ngo 1 1"
THREE = "xyz 1\nread 0 [x: tell 1 go 1 0, y: read 1 [x: go 2 0, y: go 1 0, z: go 2 0], z: go 1 0]"
NUMBER = "(0|[1-9][0-9]{0,30})"
WRONG_HEADS = [
    "", " ", "ab", "ab ", "ab 0", "ab 9", "ab 10", "ab 12", "ab 02", "ab 2 ", " ab 2", "ab  2", "ab\t2", "ab2",
    "ab 2 2", "2 ab", "a 2", "aa 2", "aba 2", "abcde 2", "Ab 2", "a1 2", "ab -1", "ab +2", "ab x", "ab 2.",
    "ab \u0662", "ab \u00b2", "ab 2\r", "go 1 0", "ab 2,", "ab: 2", "a b 2", "ab 2x",
]
WRONG_LINES = [
    "", " ", "go", "go 1", "go 1 0 ", " go 1 0", "go  1 0", "go 1  0", "go 01 0", "go 1 00", "go 1 0.", "go 1 0 0",
    "go 0 0", "go 4 0", "go 1 2", "go -1 0", "go 1 -1", "go +1 0", "go 1 0,", "go 1 0]", "go a 0", "go 1 a",
    "go 1 go 1 0", "GO 1 0", "Go 1 0", "go\t1 0", "go 1 0\r", "go 1_0 0", "go 10 0", "go \u0661 0", "go 1 \u0660",
    "go \u00b9 0", "go 1 \u00b2", "go " + "1" * 5000 + " 0", "go 1 " + "0" * 5000, "go:1 0", "[go 1 0]", "go 1 ,0",
    "tell 0", "tell 0 ", "tell go 1 0", "tell 3 go 1 0", "tell 00 go 1 0", "tell -1 go 1 0", "tell 0  go 1 0",
    "tell 0: go 1 0", "tell 0 1 go 1 0", "tell 0 [go 1 0]", "read", "read 0", "read 0 ", "read 0 []",
    "read 0 [a: go 1 0]", "read 0 [a: go 1 0, b: go 1 0", "read 0 a: go 1 0, b: go 1 0]",
    "read 0 [b: go 1 0, a: go 1 0]", "read 0 [a: go 1 0, a: go 1 0]", "read 0 [a: go 1 0, b: go 1 0, c: go 1 0]",
    "read 0 [a: go 1 0,b: go 1 0]", "read 0 [a: go 1 0, b: go 1 0] ", "read 0 [a: go 1 0, b: go 1 0]]",
    "read 0 [ a: go 1 0, b: go 1 0]", "read 0 [a: go 1 0, b: go 1 0 ]", "read 0 [a:go 1 0, b: go 1 0]",
    "read 0 [a go 1 0, b: go 1 0]", "read 0 [a: go 1 0; b: go 1 0]", "read 0[a: go 1 0, b: go 1 0]",
    "read 0  [a: go 1 0, b: go 1 0]", "read 3 [a: go 1 0, b: go 1 0]", "read 00 [a: go 1 0, b: go 1 0]",
    "read -1 [a: go 1 0, b: go 1 0]", "read 0 [a: go 1 0, b: go 1 2]", "read 0 [a: go 0 0, b: go 1 0]",
    "read [a: go 1 0, b: go 1 0]", "read 0 (a: go 1 0, b: go 1 0)", "read 0 [a: , b: go 1 0]", "wait 1 0", "ab 2",
    "a: go 1 0",
]


def end_of_tree(letters, width, states, line, at, depth):
    """Where the tree that begins at this place of the line ends; None if there is none."""
    if depth > 40:
        return None
    rest = line[at:]
    go = re.match(f"go {NUMBER} {NUMBER}", rest, re.ASCII)
    tell = re.match("tell [012] ", rest, re.ASCII)
    read = re.match(f"read {NUMBER} ", rest, re.ASCII)
    if go:
        inside = 1 <= int(go[1]) <= width + 1 and int(go[2]) < states
        return at + go.end() if inside else None
    if tell:
        return end_of_tree(letters, width, states, line, at + tell.end(), depth + 1)
    if not read or int(read[1]) > width:
        return None
    at += read.end()
    for ahead, letter in zip(["["] + [", "] * 3, letters):
        ahead += letter + ": "
        if at is None or not line.startswith(ahead, at):
            return None
        at = end_of_tree(letters, width, states, line, at + len(ahead), depth + 1)
    return at + 1 if at is not None and line.startswith("]", at) else None


def first_fault(text):
    """(TooMany, many), (BadLine, line), or None if this is the text of a searcher."""
    lines = text.split("\n")
    head = re.fullmatch("([a-z]{2,4}) ([1-8])", lines[0], re.ASCII)
    if not head or len(set(head[1])) < len(head[1]):
        return (BadLine, 0)
    states = len(lines) - 1
    if states > 64:
        return (TooMany, states)
    for number, line in enumerate(lines):
        if number and end_of_tree(head[1], int(head[2]), states, line, 0, 1) != len(line):
            return (BadLine, number)
    return None if states else (BadLine, 1)


class Base(unittest.TestCase):

    def check(self, text):
        fault = first_fault(text)
        if fault is None:
            self.assertEqual(Searcher.read(text).written(), text)
            return
        with self.assertRaises(SkipsError) as caught:
            Searcher.read(text)
        error = caught.exception
        self.assertIs(type(error), fault[0], text)
        if fault[0] is BadLine:
            self.assertEqual(error.line, fault[1], text)
        else:
            self.assertEqual((error.what, error.many, error.most), ("states", fault[1], 64))

    def refused(self, line, text):
        with self.assertRaises(BadLine) as caught:
            Searcher.read(text)
        self.assertEqual(caught.exception.line, line)


class Reverse(Base):

    def test_drawn_searchers(self):
        draws = Draws(11)
        for _ in range(120):
            letters, width, many = draws.one_of(["ab", "zay", "dcba"]), 1 + draws.below(8), 1 + draws.below(6)
            searcher = Searcher(letters, width, [drawn_tree(draws, letters, width, many, 6) for _ in range(many)])
            text = searcher.written()
            again = Searcher.read(text)
            self.assertTrue(again == searcher)
            self.assertEqual(again.nodes, searcher.nodes)
            self.assertEqual(again.written(), text)
            self.assertIsNone(first_fault(text))

    def test_the_texts(self):
        for text in (ONE, TWO, THREE):
            self.check(text)
        self.assertEqual(Searcher.read(TWO).states, (
            ("go", 9, 1), ("tell", 2, ("read", 8, (("go", 1, 0), ("tell", 0, ("go", 3, 2))))), ("go", 1, 1)))
        tree = ("read", 3, [("go", 4, 0), ("tell", 1, ("go", 1, 0)), ["go", 2, 0]])
        self.assertEqual(Searcher("cab", 3, [tree]).written(),
                         "cab 3\nread 3 [c: go 4 0, a: tell 1 go 1 0, b: go 2 0]")

    def test_numbers_of_two_digits(self):
        text = "\n".join(["ab 1"] + [f"go 1 {state}" for state in range(64)])
        self.assertEqual([tree[2] for tree in Searcher.read(text).states], list(range(64)))
        self.assertEqual(Searcher.read(text).written(), text)


class WrongTexts(Base):

    def test_values_that_are_no_strings(self):
        for text in any_values() + [0, 1, ONE.split("\n"), [ONE], (ONE,), {ONE: 1}, Searcher.read(ONE)]:
            self.refused(0, text)

    def test_first_lines(self):
        for head in WRONG_HEADS:
            for rest in ("", "\ngo 1 0", "\n", "\nwrong", "\ngo 1 0" * 65):
                self.refused(0, head + rest)
                self.check(head + rest)

    def test_lines(self):
        for line in WRONG_LINES:
            for text, number in ((f"ab 2\n{line}\ngo 1 0", 1), (f"ab 2\ngo 1 0\n{line}", 2)):
                self.refused(number, text)
                self.check(text)

    def test_each_sign_left_out_put_in_or_changed(self):
        for text in (ONE, TWO, THREE):
            for at in range(len(text) + 1):
                self.check(text[:at] + text[at + 1:])
                self.check(text[:at] + text[at:at + 1] + text[at:])
                for sign in "abcz 01289[]:,\n\t.-go":
                    self.check(text[:at] + sign + text[at:])
                    self.check(text[:at] + sign + text[at + 1:])
                self.check(text[:at] + text[at + 1:at + 2] + text[at:at + 1] + text[at + 2:])

    def test_parts_left_out_and_doubled(self):
        for text in (ONE, TWO, THREE):
            for at in range(len(text)):
                for end in range(at, min(len(text), at + 12)):
                    self.check(text[:at] + text[end:])
                    self.check(text[:end] + text[at:])

    def test_lines_left_out_doubled_or_empty(self):
        for text in (ONE, TWO, THREE):
            lines = text.split("\n")
            for at in range(len(lines) + 1):
                self.check("\n".join(lines[:at] + lines[at + 1:]))
                self.check("\n".join(lines[:at] + lines[at - 1:]))
                self.check("\n".join(lines[:at] + [""] + lines[at:]))
                self.check("\n".join(lines[:at] + [" "] + lines[at:]))
                self.check("\n".join(lines[:at] + [lines[0]] + lines[at:]))
        self.refused(2, ONE + "\n")
        self.refused(1, "ab 2\n\ngo 1 0")
        self.refused(0, "\n" + ONE)

    def test_no_other_line(self):
        self.refused(1, "ab 2")
        self.refused(1, "ab 2\n")
        self.refused(0, "")

    def test_how_many_lines(self):
        self.assertEqual(len(Searcher.read("ab 2" + "\ngo 1 0" * 64).states), 64)
        for line in ("go 1 0", "", "wrong"):
            for many in (65, 66, 200):
                with self.assertRaises(TooMany) as caught:
                    Searcher.read("ab 2" + ("\n" + line) * many)
                error = caught.exception
                self.assertEqual((error.what, error.many, error.most), ("states", many, 64))

    def test_the_first_of_several_wrong_lines(self):
        self.refused(2, "ab 2\ngo 1 0\ngo 1 4\ngo 1 5")
        self.refused(1, "ab 2\ngo 1 4\n\n")
        self.refused(0, "ab 9\ngo 1 4")
        self.refused(3, "ab 2\ngo 1 0\ngo 1 0\ngo 1 3")

    def test_too_deep(self):
        for many in (39, 40, 41, 60, 400):
            self.check("ab 1\n" + "tell 0 " * many + "go 1 0")
        self.assertEqual(Searcher.read("ab 1\n" + "tell 0 " * 39 + "go 1 0").states, (tells(40),))
        self.refused(1, "ab 1\n" + "tell 0 " * 40 + "go 1 0")
        self.refused(2, "ab 1\ngo 1 0\n" + "read 0 [a: " * 40 + "go 1 0" + ", b: go 1 0]" * 40)
        self.refused(1, "ab 1\n" + "tell 0 " * 20000)
        self.refused(1, "abcd 1\n" + "read 0 [a: " * 20000)

    def test_how_many_nodes(self):
        right = Searcher("ab", 1, [caterpillar(40)] * 37 + [caterpillar(39)]).written()
        self.assertEqual(Searcher.read(right).nodes, 3000)
        for more, many in (("\ngo 1 0", 3001), ("\ntell 0 go 1 0", 3002)):
            with self.assertRaises(TooMany) as caught:
                Searcher.read(right + more)
            error = caught.exception
            self.assertEqual((error.what, error.many, error.most), ("nodes", many, 3000))
        self.refused(40, right + "\ngo 1 0\ngo 1 99")

    def test_made_ones(self):
        for way in ("borders", "both and known", "all knowledge", "letter behind"):
            searcher = made("cab", "abcabcab", way)
            self.assertTrue(Searcher.read(searcher.written()) == searcher)


if __name__ == "__main__":
    unittest.main()
