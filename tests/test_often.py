import time
import unittest

from tests.plain import (
    Draws, changed, complete, made_ones, many_standings, renamed_letters, reordered, search, small_searcher, texts_up_to,
    told_twice, walked_standings)
from wordskips.best import best
from wordskips.errors import SkipsError, TooMany
from wordskips.makers import made
from wordskips.often import often
from wordskips.searchers import Searcher

ONE = Searcher.read("ab 2\nread 1 [a: go 1 0, b: read 0 [a: tell 0 go 2 0, b: go 2 0]]")
LAZY = Searcher.read("ab 3\ngo 2 0")


def times_by_place(searcher, text):
    """How often each letter of a text is read."""
    times = [0] * len(text)
    for at, _, reads in search(searcher, text)[0]:
        for place, _ in reads:
            times[at + place] += 1
    return times


def most_of(searcher):
    """The greatest number of reads of one letter: over all ways from all standings on, while the window is near it."""
    ahead = walked_standings(searcher)
    kept = {}

    def most_from(standing, place):
        if place < 0:
            return 0
        if (standing, place) not in kept:
            kept[(standing, place)] = max(
                len([at for at, _ in reads if at == place]) + most_from(after, place - slide)
                for reads, _, _, slide, after in ahead[standing] if slide is not None)
        return kept[(standing, place)]
    return max(most_from(standing, place) for standing in ahead for place in range(searcher.width + 1))


class MostReads(unittest.TestCase):

    def check(self, searcher):
        result = often(searcher)
        self.assertIsInstance(result.text, str)
        self.assertLessEqual(set(result.text), set(searcher.letters))
        self.assertTrue(0 <= result.place < len(result.text))
        times = times_by_place(searcher, result.text)
        self.assertEqual((times[result.place], max(times)), (result.most, result.most))
        self.assertEqual(result.most, most_of(searcher))
        return result

    def drawn_ones(self, seed, many):
        draws = Draws(seed)
        found = [small_searcher(draws) for _ in range(many)]
        found.extend([searcher for searcher, _ in made_ones()])
        return found + [changed(draws, searcher) for searcher, _ in made_ones()] + [ONE, LAZY]

    def test_against_all_short_texts(self):
        reached = 0
        for searcher in self.drawn_ones(111, 250):
            result = self.check(searcher)
            short = 0
            for text in texts_up_to(searcher.letters, 7 if len(searcher.letters) == 2 else 5):
                short = max([short, *times_by_place(searcher, text)])
            self.assertLessEqual(short, result.most)
            if len(result.text) <= (7 if len(searcher.letters) == 2 else 5):
                self.assertEqual(short, result.most)
                reached += 1
        self.assertGreater(reached, 300)

    def test_drawn_ones(self):
        for searcher in self.drawn_ones(112, 400):
            self.check(searcher)

    def test_all_reads_of_a_letter_count(self):
        # Twice at the first window, again at each of the next two, and as the letter behind ahead of all.
        again = Searcher.read("ab 2\nread 2 [a: read 1 [a: read 1 [a: read 0 [a: go 1 0, b: go 1 0], b: go 1 0], b: go 2 0],"
                              " b: go 3 0]")
        self.assertEqual(self.check(again).most, 4)
        self.assertEqual(self.check(Searcher.read("ab 1\nread 1 [a: read 1 [a: read 1 [a: go 1 0, b: go 1 0], b: go 1 0],"
                                                  " b: go 2 0]")).most, 3)
        # The letter behind, read alone: it is not there where the text ends with the window.
        self.assertEqual(self.check(Searcher.read("ab 2\nread 2 [a: go 1 0, b: go 3 0]")).most, 1)

    def test_reads_nothing(self):
        result = self.check(LAZY)
        self.assertEqual((result.most, len(result.text) > 0), (0, True))

    def test_a_letter_that_is_read_late(self):
        late = Searcher.read("ab 1\nread 0 [a: go 1 1, b: go 1 0]\nread 0 [a: go 1 0, b: go 1 2]\n"
                             "read 0 [a: read 0 [a: read 0 [a: go 2 0, b: go 1 0], b: go 1 0], b: go 1 0]")
        result = self.check(late)
        self.assertEqual((result.most, result.text[:result.place + 1]), (3, "aba"))

    def test_made_ones(self):
        for letters, word, way, most in (
                ("ab", "aaaa", "plain", 4), ("ab", "aab", "borders", 2), ("ab", "abab", "by letters", 1),
                ("ab", "aaaa", "all knowledge", 1), ("ab", "ab", "letter behind", 3)):
            self.assertEqual(self.check(made(letters, word, way)).most, most, (word, way))
        for order in ([0, 1, 2], [2, 0, 1], [1, 2, 0]):
            for words in (["aaa"], ["aba", "bab"], ["abb", "bba", "aab"]):
                self.assertLessEqual(self.check(best("ab", words, order)).most, 3)
                self.assertLessEqual(self.check(best("ab", words, order, True)).most, 4)

    def test_other_forms(self):
        draws = Draws(113)
        for searcher in self.drawn_ones(113, 60)[::2]:
            most = often(searcher).most
            for other in (searcher.least(), told_twice(draws, searcher), reordered(searcher, searcher.letters[::-1]),
                          renamed_letters(searcher, "qxyz"[:len(searcher.letters)])):
                self.assertEqual(often(other).most, most)

    def test_equal_calls(self):
        for searcher in self.drawn_ones(114, 20)[:20]:
            self.assertEqual(vars(often(searcher)), vars(often(searcher)))
        self.assertEqual(set(vars(often(ONE))), {"most", "text", "place"})


class Bounds(unittest.TestCase):

    def test_how_many_standings(self):
        with self.assertRaises(TooMany) as caught:
            often(many_standings(1))
        self.assertIsInstance(caught.exception, SkipsError)
        self.assertEqual(vars(caught.exception), {"what": "standings", "many": 2001, "most": 2000})

    def test_as_many_standings_as_are_let(self):
        begun = time.monotonic()
        searcher = many_standings(0, lambda go: complete("ab", [7, 6, 6], go))
        result = often(searcher)
        self.assertEqual((result.most, times_by_place(searcher, result.text)[result.place]), (3, 3))
        heavy = Searcher("abcd", 8, [complete("abcd", [4, 5, 6, 7, 8], ("go", 4, 0))])
        self.assertEqual(often(heavy).most, 2)
        self.assertLess(time.monotonic() - begun, 60)


class Examples(unittest.TestCase):

    def test_of_the_document(self):
        self.assertEqual(often(ONE).most, 2)


if __name__ == "__main__":
    unittest.main()
