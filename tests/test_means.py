import fractions
import time
import unittest

from tests.plain import (
    Draws, any_values, changed, complete, cost_over, fraction, made_ones, many_standings, renamed_letters, reordered,
    small_searcher, texts_up_to, told_twice, walked_standings)
from wordskips.chains import solved
from wordskips.errors import BadSize, SkipsError, TooMany
from wordskips.knowledge import standings
from wordskips.makers import made
from wordskips.means import means
from wordskips.searchers import Searcher

ONE = Searcher.read("ab 2\nread 1 [a: go 1 0, b: read 0 [a: tell 0 go 2 0, b: go 2 0]]")
# Behind the first letter it goes on for ever with one read a letter, or with three reads in four letters.
HALVES = Searcher.read("ab 1\nread 0 [a: go 1 1, b: go 1 2]\nread 0 [a: go 1 1, b: go 1 1]\n"
                       "read 0 [a: go 2 2, b: read 0 [a: go 1 2, b: go 2 2]]")
# The same with parts of other gains, one of them of two states; no way leads to the last state.
PARTS = Searcher.read("ab 1\nread 0 [a: go 1 1, b: go 1 2]\nread 0 [a: go 1 1, b: go 1 1]\n"
                      "read 0 [a: go 2 2, b: go 2 3]\nread 0 [a: go 1 2, b: go 1 2]\ngo 1 2")


def drawn_ones(seed, many):
    """Searchers of at most 60 standings."""
    draws = Draws(seed)
    found = [small_searcher(draws) for _ in range(many)]
    found.extend([searcher for searcher, _ in made_ones()])
    found.extend([changed(draws, searcher) for searcher, _ in made_ones()])
    return [searcher for searcher in found if len(standings(searcher)) <= 60] + [ONE, HALVES, PARTS]


class Sizes(unittest.TestCase):

    def test_all_short_texts(self):
        for searcher in drawn_ones(101, 200):
            result = means(searcher)
            sums, many = {}, {}
            for text in texts_up_to(searcher.letters, 7 if len(searcher.letters) == 2 else 5):
                sums[len(text)] = sums.get(len(text), 0) + cost_over(searcher, text)
                many[len(text)] = many.get(len(text), 0) + 1
            for size in sorted(sums, reverse=True):
                self.assertEqual(fraction(result.mean_of(size)), fractions.Fraction(sums[size], many[size]))

    def test_longer_texts(self):
        for searcher in drawn_ones(102, 30)[::6]:
            result = means(searcher)
            expected = self.means_up_to(searcher, 60)
            self.assertEqual([fraction(result.mean_of(size)) for size in range(61)], expected)

    def means_up_to(self, searcher, most):
        ahead, width = walked_standings(searcher), searcher.width
        found = []
        for size in range(most + 1):
            row = {}
            for standing, turns in ahead.items():
                row[standing] = fractions.Fraction(0)
                for reads, _, known, slide, after in turns:
                    free = standing[1].count(".") - known.count(".")
                    chance = fractions.Fraction(1, len(searcher.letters) ** free)
                    if size > width and slide is not None:
                        row[standing] += chance * (len(reads) + (found[size - slide][after] if size >= slide else 0))
                    elif size == width and known[width] == ".":
                        row[standing] += chance * len(reads)
            found.append(row)
        return [row[(0, "." * (width + 1))] for row in found]

    def test_sizes_in_any_order(self):
        sizes = [60, 0, 7, 2, 59, 1, 7, 60]
        result = means(ONE)
        self.assertEqual([result.mean_of(size) for size in sizes], [means(ONE).mean_of(size) for size in sizes])


class Gains(unittest.TestCase):

    def check(self, searcher):
        result = means(searcher)
        ahead = walked_standings(searcher)
        self.assertEqual((set(result.gains), set(result.heights)), (set(ahead), set(ahead)))
        gains = {standing: fraction(gain) for standing, gain in result.gains.items()}
        heights = {standing: fraction(height) for standing, height in result.heights.items()}
        for standing, turns in ahead.items():
            gain, height, chances = 0, 0, 0
            for reads, _, known, slide, after in turns:
                if slide is not None:
                    free = standing[1].count(".") - known.count(".")
                    chance = fractions.Fraction(1, len(searcher.letters) ** free)
                    chances += chance
                    gain += chance * gains[after]
                    height += chance * (len(reads) - gains[standing] * slide + heights[after])
            self.assertEqual((chances, gain, height), (1, gains[standing], heights[standing]))
        self.assertEqual(fraction(result.mean), gains[(0, "." * (searcher.width + 1))])
        return result

    def test_drawn_ones(self):
        for searcher in drawn_ones(103, 500):
            self.check(searcher)

    def test_the_mean_of_long_texts(self):
        # The difference from the mean of a letter stays near what it is for short texts.
        for searcher in drawn_ones(104, 40)[::4]:
            result = means(searcher)
            apart = [abs(fraction(result.mean_of(size)) - size * fraction(result.mean)) for size in range(61)]
            self.assertLessEqual(max(apart[40:]), max(apart[:40]) + fractions.Fraction(1, 100))
            self.assertLess(max(apart), 60)

    def test_parts_that_are_not_left(self):
        result = self.check(HALVES)
        gains = {standing: str(gain) for standing, gain in result.gains.items()}
        self.assertEqual(gains, {(0, ".."): "7/8", (1, ".."): "1", (2, ".."): "3/4"})
        result = self.check(PARTS)
        gains = [str(result.gains[(state, "..")]) for state in range(4)]
        self.assertEqual(gains, ["4/5", "1", "3/5", "3/5"])
        self.assertEqual(str(result.mean), "4/5")

    def test_made_ones(self):
        for searcher, _ in made_ones():
            if len(standings(searcher)) <= 60:
                self.check(searcher)
        self.assertEqual(str(means(made("ab", "a", "plain")).mean), "1")
        self.assertEqual(str(means(made("ab", "aa", "all knowledge")).mean), "5/6")

    def test_dicts_are_new_with_each_call(self):
        result = means(ONE)
        gains, heights = dict(result.gains), dict(result.heights)
        result.gains.clear()
        result.heights.clear()
        self.assertEqual((means(ONE).gains, means(ONE).heights), (gains, heights))
        self.assertEqual(str(result.mean_of(2)), "3/2")


class OtherForms(unittest.TestCase):

    def test_least_doubled_and_reordered(self):
        draws = Draws(105)
        for searcher in drawn_ones(105, 80)[::2]:
            result = means(searcher)
            for other in (searcher.least(), told_twice(draws, searcher), reordered(searcher, searcher.letters[::-1]),
                          renamed_letters(searcher, "qxyz"[:len(searcher.letters)])):
                if len(standings(other)) <= 60:
                    found = means(other)
                    self.assertEqual(found.mean, result.mean)
                    self.assertEqual([found.mean_of(size) for size in range(20)],
                                     [result.mean_of(size) for size in range(20)])


class Equations(unittest.TestCase):

    def test_drawn_ones(self):
        draws = Draws(106)
        for _ in range(300):
            size = 1 + draws.below(5)
            numbers = [draws.below(19) - 9 for _ in range(size)]
            rows = [[draws.below(9) - 4 if draws.below(3) else 0 for _ in range(size)] for _ in range(size)]
            rows = [[*row, sum(factor * number for factor, number in zip(row, numbers))] for row in rows]
            if determinant([row[:-1] for row in rows]) != 0:
                kept = [list(row) for row in rows]
                self.assertEqual([fraction(number) for number in solved(rows)], numbers)
                self.assertEqual(rows, kept)

    def test_fractions(self):
        self.assertEqual([str(number) for number in solved([[0, 2, 1], [3, 3, 1]])], ["-1/6", "1/2"])


def determinant(rows):
    if not rows:
        return 1
    return sum((-1) ** at * rows[0][at] * determinant([row[:at] + row[at + 1:] for row in rows[1:]])
               for at in range(len(rows)) if rows[0][at])


class Refused(unittest.TestCase):

    def test_sizes(self):
        result = means(ONE)
        for size in any_values() + [61, 62, -2, "1", [1], (1,), 10 ** 40]:
            with self.assertRaises(BadSize) as caught:
                result.mean_of(size)
            self.assertIsInstance(caught.exception, SkipsError)
            self.assertEqual(caught.exception.size, size)
            self.assertIs(type(caught.exception.size), type(size))
        self.assertEqual([str(result.mean_of(size)) for size in (0, 1, 60)], ["0", "0", str(result.mean_of(60))])

    def counted(self, many):
        """A searcher of so many standings, each but the last ones with all that is known forgotten."""
        return Searcher("ab", 2, [("read", 1, [("go", 2 + state % 2, (state + 1) % many), ("go", 3, 0)])
                                  for state in range(many)])

    def test_how_many_standings(self):
        begun = time.monotonic()
        self.assertEqual(len(means(self.counted(60)).gains), 60)
        for searcher, many, most in ((self.counted(61), 61, 60), (self.counted(64), 64, 60),
                                     (many_standings(0), 2000, 60), (many_standings(1), 2001, 2000)):
            with self.assertRaises(TooMany) as caught:
                means(searcher)
            self.assertEqual(vars(caught.exception), {"what": "standings", "many": many, "most": most})
        self.assertLess(time.monotonic() - begun, 60)


class Bounds(unittest.TestCase):

    def test_as_many_standings_as_are_let(self):
        begun = time.monotonic()
        draws = Draws(107)
        trees = [("go", 9, 1), ("go", 9, 2), ("go", 9, 3)]
        trees.append(complete("ab", [8], ("go", 8, 4)))
        # A state and the letter behind, known as the first one then: any of them may come behind any other one.
        for state in range(28):
            places = [[8, 3, 0], [8, 3, 5, 4], [8, 2, 2, 0, 1]][state % 3]
            trees.append(complete("ab", places, lambda read: ("go", 8, 4 + draws.below(28))))
        searcher = Searcher("ab", 8, trees)
        result = Gains.check(self, searcher)
        self.assertEqual(len(result.gains), 60)
        self.assertEqual(result.mean_of(60), means(searcher).mean_of(60))
        self.assertLess(time.monotonic() - begun, 60)


class Examples(unittest.TestCase):

    def test_of_the_document(self):
        self.assertEqual([str(means(ONE).mean), str(means(ONE).mean_of(2)), str(means(ONE).mean_of(3))],
                         ["1", "3/2", "9/4"])

    def test_attributes(self):
        self.assertLessEqual({"mean", "gains", "heights"}, set(vars(means(ONE))))


if __name__ == "__main__":
    unittest.main()
