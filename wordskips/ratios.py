"""Exact fractions."""

from math import gcd

from wordskips.checks import is_integer
from wordskips.errors import BadOver


class Ratio:
    """A fraction in lowest terms, number / over, over above 0."""

    def __init__(self, number, over=1):
        if not is_integer(over) or over == 0:
            raise BadOver()
        shared = gcd(number, over) if over > 0 else -gcd(number, over)
        self.number = number // shared
        self.over = over // shared

    def __eq__(self, other):
        return isinstance(other, Ratio) and self.number == other.number and self.over == other.over

    def __str__(self):
        if self.over == 1:
            return f"{_digits(self.number)}"
        return f"{_digits(self.number)}/{_digits(self.over)}"

    def __add__(self, other):
        if not _is_number(other):
            return NotImplemented
        more = _ratio(other)
        return Ratio(self.number * more.over + more.number * self.over, self.over * more.over)

    def __radd__(self, other):
        return self + other

    def __sub__(self, other):
        if not _is_number(other):
            return NotImplemented
        return self + -other

    def __rsub__(self, other):
        return -self + other

    def __mul__(self, other):
        if not _is_number(other):
            return NotImplemented
        factor = _ratio(other)
        return Ratio(self.number * factor.number, self.over * factor.over)

    def __rmul__(self, other):
        return self * other

    def __neg__(self):
        return Ratio(-self.number, self.over)

    def __abs__(self):
        return Ratio(abs(self.number), self.over)

    def is_less(self, other):
        """Whether it is less than another one, or than an integer."""
        bound = _ratio(other)
        return self.number * bound.over < bound.number * self.over

    def divided(self, other):
        """The quotient of it and another one, or an integer."""
        if not _is_number(other):
            raise BadOver()
        part = _ratio(other)
        # If it is 0, the fraction below is over 0 and raises BadOver, too.
        return Ratio(self.number * part.over, self.over * part.number)


def _is_number(value):
    return isinstance(value, Ratio) or is_integer(value)


def _ratio(value):
    """A Ratio for a Ratio or an integer."""
    return value if isinstance(value, Ratio) else Ratio(value)


def _digits(number):
    """The digits of an integer, written sixty at a time: Python writes no integer of many thousands at once."""
    left = abs(number)
    parts = []
    while left >= 10 ** 60:
        parts.append(str(left % 10 ** 60).zfill(60))
        left = left // 10 ** 60
    parts.append(str(left))
    parts.append("-" if number < 0 else "")
    return "".join(parts[::-1])
