import itertools
import time
import unittest

from tests.plain import (
    Draws, changed, complete, made_ones, many_standings, search, small_searcher, texts_up_to, told_twice, walked,
    walked_standings)
from wordskips.errors import SkipsError, TooMany
from wordskips.knowledge import Turn, standings, turns
from wordskips.makers import made
from wordskips.searchers import Searcher

BEHIND = Searcher.read("ab 2\nread 0 [a: tell 1 read 2 [a: tell 0 go 1 0, b: go 3 0], b: tell 2 tell 2 go 1 0]")
AGAIN = Searcher.read("ab 2\nread 1 [a: read 1 [a: read 0 [a: go 1 0, b: go 3 1], b: go 1 0], b: go 2 1]\n"
                      "read 2 [a: read 2 [a: go 2 0, b: go 1 1], b: read 1 [a: go 1 0, b: read 0 [a: go 1 0, b: go 3 1]]]")


def plain(turn):
    return (turn.reads, turn.tells, turn.known, turn.slide, turn.after)


def drawn_ones(seed, many):
    draws = Draws(seed)
    found = [small_searcher(draws) for _ in range(many)]
    return found + [changed(draws, searcher) for searcher, _ in made_ones()] + [BEHIND, AGAIN]


class Turns(unittest.TestCase):

    def check(self, searcher, standing):
        found = turns(searcher, standing)
        self.assertIsInstance(found, list)
        self.assertEqual([plain(turn) for turn in found], walked(searcher, *standing))
        for turn in found:
            self.assertIsInstance(turn, Turn)
            self.assertIs(turn.is_cut, turn.slide is None)
            self.assertIs(turn.is_cut, turn.after is None)
            self.assertEqual(set(vars(turn)), {"reads", "tells", "known", "slide", "after"})
            self.assertTrue(isinstance(turn.reads, tuple) and all(isinstance(pair, tuple) for pair in turn.reads))
            self.assertTrue(isinstance(turn.tells, tuple) and (turn.is_cut or isinstance(turn.after, tuple)))

    def test_standings_that_come_up(self):
        for searcher in drawn_ones(71, 250):
            for standing in walked_standings(searcher):
                self.check(searcher, standing)

    def test_any_standing(self):
        draws = Draws(72)
        for searcher in drawn_ones(72, 150):
            for _ in range(6):
                known = draws.text(searcher.letters + ".", searcher.width) + "."
                self.check(searcher, (draws.below(len(searcher.states)), known))
        for known in itertools.product("ab.", repeat=2):
            for state in (0, 1):
                self.check(AGAIN, (state, "".join(known) + "."))

    def test_all_standings_of_made_ones(self):
        for searcher, _ in made_ones()[:44]:
            for known in itertools.product("ab.", repeat=searcher.width):
                for state in range(len(searcher.states)):
                    self.check(searcher, (state, "".join(known) + "."))

    def test_the_letter_behind(self):
        self.assertEqual([plain(turn) for turn in turns(BEHIND, (0, "a.."))], [
            (((0, "a"),), (1,), "a..", None, None),
            (((0, "a"), (2, "a")), (1, 0), "a.a", 1, (0, ".a.")),
            (((0, "a"), (2, "b")), (1,), "a.b", 3, (0, "..."))])
        self.assertEqual([turn.is_cut for turn in turns(BEHIND, (0, "..."))], [True, False, False, False])
        self.assertEqual([turn.is_cut for turn in turns(AGAIN, (1, "..."))], [True, False, False, False, False])

    def test_a_list_is_new_with_each_call(self):
        turns(BEHIND, (0, "a..")).clear()
        self.assertEqual(len(turns(BEHIND, (0, "a.."))), 3)


class Searches(unittest.TestCase):
    """A search over a text goes from the first standing by turns."""

    def check(self, searcher, text):
        standing, place, read = (0, "." * (searcher.width + 1)), 0, {}
        told = []
        windows, pairs = search(searcher, text)
        for at, state, reads in windows:
            known = "".join(read.get(at + offset, ".") for offset in range(searcher.width)) + "."
            self.assertEqual((place, standing), (at, (state, known)))
            read.update({at + offset: letter for offset, letter in reads})
            taken = [turn for turn in turns(searcher, standing) if turn.reads == tuple(reads)]
            is_last = at + searcher.width == len(text)
            if len(taken) > 1:
                # Just a read of the letter behind can be cut at the same letters; it ends the search here.
                taken = [turn for turn in taken if turn.is_cut == is_last]
            self.assertEqual(len(taken), 1)
            told.extend([(at, number) for number in taken[0].tells])
            if not taken[0].is_cut:
                place, standing = at + taken[0].slide, taken[0].after
            else:
                self.assertTrue(is_last and at == windows[-1][0])
        self.assertEqual(told, pairs)

    def test_all_short_texts(self):
        for searcher in drawn_ones(73, 60):
            for text in texts_up_to(searcher.letters, 7 if len(searcher.letters) == 2 else 4):
                self.check(searcher, text)


class Standings(unittest.TestCase):

    def test_those_that_come_up(self):
        for searcher in drawn_ones(74, 250) + [searcher for searcher, _ in made_ones()]:
            found = standings(searcher)
            self.assertIsInstance(found, tuple)
            self.assertEqual(list(found), sorted(walked_standings(searcher)))
            self.assertEqual(found, standings(searcher))

    def test_the_least_form_has_no_more_of_them(self):
        draws = Draws(75)
        for searcher in drawn_ones(75, 80):
            many = len(standings(searcher.least()))
            self.assertLessEqual(many, len(standings(searcher)))
            self.assertEqual(many, len(standings(told_twice(draws, searcher).least())))

    def test_known_letters_only_of_the_last_place(self):
        # All beginnings of windows of which just the letters read last are missing.
        searcher = Searcher("abc", 3, [complete("abc", [2], ("go", 1, 0))])
        knowns = ["".join(signs) for size in range(3) for signs in itertools.product("abc", repeat=size)]
        self.assertEqual(standings(searcher), tuple(sorted((0, known.rjust(2, ".") + "..") for known in knowns)))


class Many(unittest.TestCase):

    def test_as_many_as_are_let(self):
        begun = time.monotonic()
        searcher = many_standings(0)
        self.assertEqual(len(standings(searcher)), 2000)
        self.assertEqual(list(standings(searcher)), sorted(walked_standings(searcher)))
        self.assertLess(time.monotonic() - begun, 30)

    def test_one_more_and_many_more(self):
        begun = time.monotonic()
        full = Searcher("abcd", 8, [complete("abcd", [7], ("go", 1, 0))])
        for searcher in (many_standings(1), many_standings(9), full):
            with self.assertRaises(TooMany) as caught:
                standings(searcher)
            self.assertIsInstance(caught.exception, SkipsError)
            self.assertEqual(vars(caught.exception), {"what": "standings", "many": 2001, "most": 2000})
            # A single standing has its turns nevertheless.
            self.assertEqual(len(turns(searcher, (len(searcher.states) - 1, "a" * 8 + "."))), 1)
        self.assertLess(time.monotonic() - begun, 30)

    def test_many_turns_from_each(self):
        begun = time.monotonic()
        searcher = Searcher("abcd", 8, [complete("abcd", [4, 5, 6, 7, 8], ("go", 5, 0))])
        self.assertEqual(len(standings(searcher)), 257)
        self.assertEqual(len(turns(searcher, (0, "." * 9))), 1024 + 256)
        self.assertLess(time.monotonic() - begun, 30)


class Examples(unittest.TestCase):

    def test_of_the_document(self):
        one = Searcher.read("ab 2\nread 1 [a: go 1 0, b: read 0 [a: tell 0 go 2 0, b: go 2 0]]")
        told = [(turn.reads, turn.tells, turn.known, turn.after) for turn in turns(one, (0, "a.."))]
        self.assertEqual([standings(one), told], [((0, "..."), (0, "a..")), [
            (((1, "a"),), (), "aa.", (0, "a..")), (((1, "b"), (0, "a")), (0,), "ab.", (0, "..."))]])

    def test_by_hand(self):
        # Unlike at 1: a is known; unlike at 2: b is known; all like: a is known in state 1.
        self.assertEqual(standings(made("ab", "aba", "borders")),
                         ((0, "...."), (0, "a..."), (0, "b..."), (1, "a...")))


if __name__ == "__main__":
    unittest.main()
