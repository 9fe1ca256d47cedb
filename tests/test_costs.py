import fractions
import time
import unittest

from tests.plain import (
    Draws, any_values, changed, complete, cost_over, drawn_searcher, fraction, made_ones, many_standings, renamed_letters,
    reordered, small_searcher, texts_up_to, told_twice, walked_standings)
from wordskips.costs import costs
from wordskips.errors import BadSize, SkipsError, TooMany
from wordskips.knowledge import standings
from wordskips.makers import made
from wordskips.searchers import Searcher

ONE = Searcher.read("ab 2\nread 1 [a: go 1 0, b: read 0 [a: tell 0 go 2 0, b: go 2 0]]")
TWO = Searcher.read("ab 2\nread 0 [a: read 1 [a: go 1 0, b: tell 0 go 1 0], b: go 1 0]")
LAZY = Searcher.read("ab 3\ngo 2 0")


def drawn_ones(seed, many):
    draws = Draws(seed)
    found = [small_searcher(draws) for _ in range(many)]
    found.extend([searcher for searcher, _ in made_ones()])
    return found + [changed(draws, searcher) for searcher, _ in made_ones()] + [ONE, TWO, LAZY]


def greatest(searcher, most):
    """The greatest costs of texts of each size up to the most, from turns written anew."""
    ahead = walked_standings(searcher)
    width = searcher.width
    found = []
    for size in range(most + 1):
        row = {}
        for standing, turns in ahead.items():
            costs_of = [0]
            for reads, _, known, slide, after in turns:
                if size > width and slide is not None:
                    costs_of.append(len(reads) + (found[size - slide][after] if size >= slide else 0))
                elif size == width and known[width] == ".":
                    costs_of.append(len(reads))
            row[standing] = max(costs_of)
        found.append(row)
    return [row[(0, "." * (width + 1))] for row in found]


class Worst(unittest.TestCase):

    def test_all_short_texts(self):
        for searcher in drawn_ones(91, 200):
            result = costs(searcher)
            dearest, extra = fraction(result.dearest), fraction(result.extra)
            most = {}
            for text in texts_up_to(searcher.letters, 7 if len(searcher.letters) == 2 else 5):
                cost = cost_over(searcher, text)
                most[len(text)] = max(most.get(len(text), 0), cost)
                if len(text) >= searcher.width:
                    self.assertLessEqual(cost, dearest * len(text) + extra)
            for size in sorted(most, reverse=True):
                self.assertEqual(result.worst(size), most[size])
                text = result.slowest(size)
                self.assertEqual((len(text), cost_over(searcher, text)), (size, most[size]))
                self.assertTrue(isinstance(text, str) and set(text) <= set(searcher.letters))

    def test_longer_texts(self):
        for searcher in drawn_ones(92, 60)[::2]:
            result = costs(searcher)
            expected = greatest(searcher, 45)
            self.assertEqual([result.worst(size) for size in range(46)], expected)
            for size in (45, 8, 300):
                text = result.slowest(size)
                self.assertEqual((len(text), cost_over(searcher, text)), (size, result.worst(size)))

    def test_sizes_in_any_order(self):
        result, other = costs(TWO), costs(TWO)
        sizes = [300, 0, 7, 2, 299, 1, 7, 300]
        self.assertEqual([result.worst(size) for size in sizes], [other.worst(size) for size in sizes])
        self.assertEqual([result.slowest(size) for size in sizes], [other.slowest(size) for size in sizes])
        self.assertEqual([result.worst(size) for size in sizes], [598, 0, 12, 2, 596, 0, 12, 598])

    def test_the_letter_behind(self):
        # The letter behind is read just if it is there: in a text of 2 letters at one window, of 3 at two.
        behind = Searcher.read("ab 1\nread 0 [a: read 1 [a: go 1 0, b: go 2 0], b: read 1 [a: go 2 0, b: go 2 0]]")
        result = costs(behind)
        self.assertEqual([result.worst(size) for size in range(7)], [0, 1, 3, 5, 7, 9, 11])
        self.assertEqual((str(result.dearest), str(result.extra)), ("2", "-1"))
        jumps = Searcher.read("ab 2\nread 2 [a: read 2 [a: read 2 [a: go 3 0, b: go 1 0], b: go 1 0], b: go 3 0]")
        self.assertEqual([costs(jumps).worst(size) for size in range(9)], [0, 0, 0, 3, 3, 3, 6, 6, 6])
        self.assertEqual((str(costs(jumps).dearest), str(costs(jumps).extra)), ("1", "0"))


class Dearest(unittest.TestCase):

    def check(self, searcher):
        result = costs(searcher)
        dearest = fraction(result.dearest)
        ahead = walked_standings(searcher)
        self.assertEqual(set(result.heights), set(ahead))
        heights = {standing: fraction(height) for standing, height in result.heights.items()}
        for standing, turns in ahead.items():
            for reads, _, _, slide, after in turns:
                if slide is not None:
                    self.assertLessEqual(len(reads) - dearest * slide + heights[after], heights[standing])
        self.assertIsInstance(result.ring, str)
        self.assertNotEqual(result.ring, "")
        self.assertLessEqual(set(result.front + result.ring), set(searcher.letters))
        found = [cost_over(searcher, result.front + result.ring * times) for times in (9, 10, 11, 12, 16)]
        rise = dearest * len(result.ring)
        self.assertEqual([less - found[0] for less in found], [rise * times for times in (0, 1, 2, 3, 7)])
        return result

    def test_drawn_ones(self):
        for searcher in drawn_ones(93, 400):
            self.check(searcher)

    def test_wider_ones(self):
        draws = Draws(94)
        some = 0
        while some < 40:
            searcher = drawn_searcher(draws)
            try:
                few = len(standings(searcher)) < 40
            except TooMany:
                few = False
            if few:
                self.check(searcher)
                some += 1
        for way in ("good end", "letter behind", "all knowledge", "by letters"):
            self.check(made("abc", "abcab", way))

    def test_extra_is_the_least(self):
        for searcher in drawn_ones(95, 150)[::2]:
            result = costs(searcher)
            dearest = fraction(result.dearest)
            width = searcher.width
            # A text over which it is needed goes over no standing twice; here twenty are enough.
            size = (width + 1) * min(len(walked_standings(searcher)), 20) + width + 1
            worst = greatest(searcher, size)
            self.assertEqual(fraction(result.extra), max(worst[many] - dearest * many for many in range(width, size + 1)))

    def test_reads_nothing(self):
        result = self.check(LAZY)
        self.assertEqual((str(result.dearest), str(result.extra), result.worst(300)), ("0", "0", 0))

    def test_rings_that_begin_late(self):
        # One letter costs a read; from the first b on, two.
        late = Searcher.read("ab 1\nread 0 [a: go 1 0, b: go 1 1]\nread 0 [a: read 0 [a: go 1 1, b: go 1 1], b: go 2 2]\n"
                             "read 0 [a: go 1 1, b: go 2 2]")
        result = self.check(late)
        self.assertEqual((str(result.dearest), str(result.extra)), ("2", "-1"))
        self.assertEqual([result.worst(size) for size in range(5)], [0, 1, 3, 5, 7])

    def test_made_ones(self):
        # Over aaaa.. the ways from the left that do not look at the letter read the last but one place again.
        for way, ratio in (("borders", "2"), ("strict borders", "2"), ("by letters", "1"), ("plain", "4"),
                           ("all knowledge", "1")):
            self.assertEqual(str(costs(made("ab", "aaab", way)).dearest), ratio, way)

    def test_no_less_than_a_read_a_letter(self):
        for letters, words in (("ab", ["a", "bb", "aba", "abab", "aabaa", "bbbbb"]), ("abc", ["a", "bc", "cbc"])):
            for word in words:
                for way in ("borders", "strict borders", "by letters", "plain", "last letter", "letter behind",
                            "bad letter", "good end", "both", "both and known", "all knowledge"):
                    self.assertFalse(costs(made(letters, word, way)).dearest.is_less(1), (word, way))

    def test_dicts_are_new_with_each_call(self):
        result = costs(ONE)
        kept = dict(result.heights)
        result.heights.clear()
        self.assertEqual(costs(ONE).heights, kept)
        self.assertEqual(result.worst(5), 5)


class OtherForms(unittest.TestCase):

    def test_least_doubled_and_reordered(self):
        draws = Draws(96)
        for searcher in drawn_ones(96, 80)[::2]:
            same = [searcher.least(), told_twice(draws, searcher), reordered(searcher, searcher.letters[::-1]),
                    renamed_letters(searcher, "qxyz"[:len(searcher.letters)])]
            result = costs(searcher)
            for other in same:
                found = costs(other)
                self.assertEqual((found.dearest, found.extra), (result.dearest, result.extra))
                self.assertEqual([found.worst(size) for size in range(25)], [result.worst(size) for size in range(25)])


class Refused(unittest.TestCase):

    def test_sizes(self):
        result = costs(ONE)
        for size in any_values() + [301, 302, -2, "1", [1], (1,), 10 ** 40]:
            for call in (result.worst, result.slowest):
                with self.assertRaises(BadSize) as caught:
                    call(size)
                self.assertIsInstance(caught.exception, SkipsError)
                self.assertEqual(caught.exception.size, size)
                self.assertIs(type(caught.exception.size), type(size))
        self.assertEqual((result.worst(0), result.slowest(0), result.worst(300)), (0, "", 300))

    def test_how_many_standings(self):
        with self.assertRaises(TooMany) as caught:
            costs(many_standings(1))
        self.assertEqual(vars(caught.exception), {"what": "standings", "many": 2001, "most": 2000})


class Bounds(unittest.TestCase):

    def test_as_many_standings_as_are_let(self):
        begun = time.monotonic()
        result = costs(many_standings(0))
        # 41 slides by nine or eight, each but the first and the last ones with a read, then one read a letter.
        self.assertEqual((str(result.dearest), len(result.heights)), ("1", 2000))
        self.assertEqual(result.worst(300), cost_over(many_standings(0), result.slowest(300)))
        core = costs(many_standings(0, lambda go: complete("ab", [7, 7], go) if go[2] % 3 else complete("ab", [7], go)))
        self.assertEqual(fraction(core.dearest), fractions.Fraction(9 * 2 + 5, 14))
        self.assertLess(time.monotonic() - begun, 60)

    def test_many_turns_from_each(self):
        begun = time.monotonic()
        searcher = Searcher("abcd", 8, [complete("abcd", [4, 5, 6, 7, 8], ("go", 5, 0))])
        result = costs(searcher)
        self.assertEqual((str(result.dearest), str(result.extra)), ("1", "-4"))
        self.assertEqual(result.worst(300), cost_over(searcher, result.slowest(300)))
        self.assertLess(time.monotonic() - begun, 60)


class Examples(unittest.TestCase):

    def test_of_the_document(self):
        found = [(str(told.dearest), str(told.extra), [told.worst(size) for size in range(6)])
                 for told in (costs(ONE), costs(TWO))]
        self.assertEqual(found, [("1", "0", [0, 0, 2, 3, 4, 5]), ("2", "-2", [0, 0, 2, 4, 6, 8])])

    def test_attributes(self):
        self.assertLessEqual({"dearest", "front", "ring", "heights", "extra"}, set(vars(costs(ONE))))


if __name__ == "__main__":
    unittest.main()
