import fractions
import unittest

from tests.plain import Draws, any_values
from wordskips.errors import BadOver, SkipsError
from wordskips.ratios import Ratio

BIG = 987654321987654321987654321
INTEGERS = [0, 1, -1, 2, -2, 3, 12, -12, 10 ** 18, -(10 ** 18) - 1, 10 ** 18 + 9, BIG, -BIG, 10 ** 39, 6 * BIG]


def pairs(seed, many):
    """Drawn numbers with what they are over, of one figure up to forty."""
    draws = Draws(seed)
    found = []
    for _ in range(many):
        number, over = 0, 0
        for _ in range(draws.below(4)):
            number = number * 10 ** 10 + draws.below(10 ** draws.one_of([1, 2, 9]))
        while over == 0:
            for _ in range(draws.below(4)):
                over = over * 10 ** 10 + draws.below(10 ** draws.one_of([1, 2, 9]))
        found.append((draws.one_of([1, -1]) * number, draws.one_of([1, -1]) * over))
    return found


PAIRS = pairs(41, 250) + [(number, over) for number in INTEGERS for over in (1, -1, 2, -6, BIG)]


class Fractions(unittest.TestCase):

    def same(self, ratio, fraction):
        self.assertEqual(ratio.__class__, Ratio)
        self.assertEqual((ratio.number, ratio.over), (fraction.numerator, fraction.denominator))
        self.assertEqual((type(ratio.number), type(ratio.over)), (int, int))

    def test_lowest_terms(self):
        for number, over in PAIRS:
            self.same(Ratio(number, over), fractions.Fraction(number, over))
        for number in INTEGERS:
            self.same(Ratio(number), fractions.Fraction(number))
        for number, over, lowest in ((6, 4, (3, 2)), (6, -4, (-3, 2)), (-6, -4, (3, 2)), (-6, 4, (-3, 2)),
                                     (0, 7, (0, 1)), (0, -7, (0, 1)), (-7, 7, (-1, 1)), (5, -1, (-5, 1))):
            self.assertEqual((Ratio(number, over).number, Ratio(number, over).over), lowest)

    def test_signs_between_ratios(self):
        for (one, over), (other, below) in zip(PAIRS, PAIRS[7:] + PAIRS[:7]):
            left, right = Ratio(one, over), Ratio(other, below)
            plain, second = fractions.Fraction(one, over), fractions.Fraction(other, below)
            self.same(left + right, plain + second)
            self.same(left - right, plain - second)
            self.same(left * right, plain * second)
            self.assertIs(left.is_less(right), plain < second)
            self.assertIs(left == right, plain == second)
            self.assertIs(left != right, plain != second)
            if second != 0:
                self.same(left.divided(right), plain / second)
            self.same(left, plain)
            self.same(right, second)

    def test_signs_with_integers_on_either_side(self):
        for number, over in PAIRS[::5] + [(0, 1), (5, 1), (-1, 2)]:
            ratio, plain = Ratio(number, over), fractions.Fraction(number, over)
            for integer in INTEGERS:
                self.same(ratio + integer, plain + integer)
                self.same(integer + ratio, integer + plain)
                self.same(ratio - integer, plain - integer)
                self.same(integer - ratio, integer - plain)
                self.same(ratio * integer, plain * integer)
                self.same(integer * ratio, integer * plain)
                self.assertIs(ratio.is_less(integer), plain < integer)
                if integer != 0:
                    self.same(ratio.divided(integer), plain / integer)
            self.same(sum([ratio, ratio, Ratio(1, 3)]), 2 * plain + fractions.Fraction(1, 3))

    def test_signs_ahead(self):
        for number, over in PAIRS:
            self.same(-Ratio(number, over), -fractions.Fraction(number, over))
            self.same(abs(Ratio(number, over)), abs(fractions.Fraction(number, over)))

    def test_is_less(self):
        third = Ratio(1, 3)
        self.assertFalse(third.is_less(third))
        self.assertFalse(third.is_less(Ratio(2, 6)))
        self.assertTrue(third.is_less(Ratio(BIG + 1, 3 * BIG)))
        self.assertFalse(Ratio(BIG + 1, 3 * BIG).is_less(third))
        self.assertTrue(Ratio(-1, 2).is_less(-third))
        self.assertTrue(Ratio(-1, 2).is_less(0))
        self.assertFalse(Ratio(0).is_less(0))
        self.assertFalse(Ratio(2).is_less(2))
        self.assertTrue(Ratio(10 ** 18 - 1).is_less(10 ** 18))

    def test_equal(self):
        self.assertTrue(Ratio(2, 4) == Ratio(-1, -2))
        self.assertFalse(Ratio(1, 2) == Ratio(1, 3))
        self.assertFalse(Ratio(1, 2) == Ratio(2, 2))
        self.assertFalse(Ratio(10 ** 18) == Ratio(10 ** 18 + 1))
        self.assertFalse(Ratio(1, 10 ** 18) == Ratio(1, 10 ** 18 + 1))

    def test_not_equal_to_other_values(self):
        for ratio in (Ratio(0), Ratio(1), Ratio(2), Ratio(1, 2)):
            for value in [0, 1, 2, "1/2", "1", (1, 2), [1, 2], fractions.Fraction(1, 2), 0.5, 1.0] + any_values():
                if not isinstance(value, Ratio):
                    self.assertFalse(ratio == value)
                    self.assertFalse(value == ratio)
                    self.assertTrue(ratio != value)

    def test_texts(self):
        for number, over in PAIRS:
            self.assertEqual(str(Ratio(number, over)), str(fractions.Fraction(number, over)))
        for ratio, text in ((Ratio(3, 2), "3/2"), (Ratio(4, 2), "2"), (Ratio(0, 5), "0"), (Ratio(3, -2), "-3/2"),
                            (Ratio(-8, 4), "-2"), (Ratio(1, 10 ** 39), "1/1" + "0" * 39)):
            self.assertEqual(str(ratio), text)
        for size in (59, 60, 61, 119, 120, 121, 600):
            for number in (10 ** size - 1, 10 ** size, 10 ** size + 7, 3 * 10 ** size - 1):
                self.assertEqual(str(Ratio(number)), str(number))
                self.assertEqual(str(Ratio(-number, 10 ** 999)), str(fractions.Fraction(-number, 10 ** 999)))

    def test_texts_of_thousands_of_figures(self):
        long = Ratio(1)
        for _ in range(170):
            long = long * 10 ** 39
        self.assertEqual(str(long), "1" + "0" * (170 * 39))
        self.assertEqual(str(-long - 1), "-1" + "0" * (170 * 39 - 1) + "1")
        self.assertEqual(str(Ratio(-2).divided(long * 3)), "-1/15" + "0" * (170 * 39 - 1))

    def test_equal_calls_and_what_is_not_changed(self):
        one, other = Ratio(3, 7), Ratio(3, 7)
        self.assertTrue(one + 1 == other + 1)
        for result in (one + other, one * 2, -one, abs(one), one.divided(2), 2 - one):
            self.same(one, fractions.Fraction(3, 7))
            self.assertIsNot(result, one)


class Wrong(unittest.TestCase):

    def refused(self, call):
        with self.assertRaises(BadOver) as caught:
            call()
        self.assertIsInstance(caught.exception, SkipsError)

    def test_over_zero(self):
        for number in INTEGERS:
            self.refused(lambda: Ratio(number, 0))

    def test_values_that_are_over_nothing(self):
        for over in any_values() + ["1", "2", (1, 2), {1: 2}]:
            if not isinstance(over, int) or isinstance(over, bool):
                self.refused(lambda: Ratio(1, over))

    def test_divided_by_zero(self):
        for number, over in PAIRS[:20]:
            self.refused(lambda: Ratio(number, over).divided(0))
            self.refused(lambda: Ratio(number, over).divided(Ratio(0)))
            self.refused(lambda: Ratio(number, over).divided(Ratio(0, -5)))

    def test_divided_by_other_values(self):
        for other in any_values() + ["1", (1, 2)]:
            if not isinstance(other, (int, Ratio)) or isinstance(other, bool):
                self.refused(lambda: Ratio(1, 2).divided(other))

    def test_signs_with_other_values(self):
        for other in ("1", None, [1], True, (1, 2)):
            for call in (lambda: Ratio(1) + other, lambda: other + Ratio(1), lambda: Ratio(1) - other,
                         lambda: other - Ratio(1), lambda: Ratio(1) * other, lambda: other * Ratio(1)):
                self.assertRaises(TypeError, call)


class Examples(unittest.TestCase):

    def test_of_the_document(self):
        half = Ratio(3, -6) + 1
        told = [str(half), str(2 - half * 3), str(half.divided(Ratio(1, 3))), half == Ratio(1, 2), half.is_less(1),
                abs(-half).over]
        self.assertEqual(told, ["1/2", "1/2", "3/2", True, True, 2])


if __name__ == "__main__":
    unittest.main()
