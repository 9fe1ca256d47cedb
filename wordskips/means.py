"""What a searcher reads on the average, if all letters are equally likely."""

from wordskips.chains import gains_and_heights
from wordskips.checks import is_whole
from wordskips.errors import BadSize, TooMany
from wordskips.knowledge import last, standings, turns, whole
from wordskips.ratios import Ratio

MOST_STANDINGS = 60
GREATEST_SIZE = 60


class Means:
    """The mean costs of a searcher, for each size of text, and for a letter in the long run."""

    def __init__(self, searcher):
        found = standings(searcher)
        if len(found) > MOST_STANDINGS:
            raise TooMany("standings", len(found), MOST_STANDINGS)
        shares = _powers(len(searcher.letters), searcher.width + 1)
        self._width = searcher.width
        self._chain = _chain(searcher, found, shares)
        # For each number of letters, and each standing at which that many are left, the mean cost of the search from
        # there on, times one more factor shares[-1] for each letter from the width of the window on.
        self._sums = [[0 for _ in found] for _ in range(self._width)]
        self._sums.append([_paid_at_the_end(searcher, standing, shares) for standing in found])
        self._factors = _powers(shares[-1], GREATEST_SIZE)
        gains, heights = gains_and_heights(self._chain)
        self.mean = gains[0]
        self.gains = {standing: gain for standing, gain in zip(found, gains)}
        self.heights = {standing: height for standing, height in zip(found, heights)}

    def mean_of(self, size):
        """The mean of the costs of all texts of this size, a Ratio."""
        if not is_whole(size, 0, GREATEST_SIZE):
            raise BadSize(size)
        while len(self._sums) <= size:
            self._sums.append([self._sum_of(moves) for moves in self._chain])
        # The first standing is the least one of all.
        return Ratio(self._sums[size][0], self._factors[max(0, size - self._width + 1)])

    def _sum_of(self, moves):
        """What stands in the sums for a standing with these moves, for one letter more than they are known for."""
        size = len(self._sums)
        paid = sum([paid for _, paid, _, _ in moves]) * self._factors[size - self._width]
        return paid + sum([weight * self._factors[slide - 1] * self._sums[size - slide][end]
                           for weight, _, slide, end in moves])


def means(searcher):
    """The mean costs of a searcher, as a Means."""
    return Means(searcher)


def _powers(base, most):
    """The powers of a number, from 1 on, with exponents up to the most."""
    found = [1]
    for _ in range(most):
        found.append(found[-1] * base)
    return found


def _weight(standing, turn, shares):
    """How likely a turn is, as a part of shares[-1]."""
    _, known = standing
    return shares[len(known) - known.count(".") + turn.known.count(".")]


def _chain(searcher, found, shares):
    """The chain of the standings that come up, in their order; the turns are its moves."""
    places = {standing: place for place, standing in enumerate(found)}
    chain = []
    for standing in found:
        moves = {}
        for turn in whole(turns(searcher, standing)):
            weight = _weight(standing, turn, shares)
            key = (turn.slide, places[turn.after])
            before, paid = moves.get(key, (0, 0))
            moves[key] = (before + weight, paid + weight * len(turn.reads))
        chain.append([(weight, paid, slide, end) for (slide, end), (weight, paid) in moves.items()])
    return chain


def _paid_at_the_end(searcher, standing, shares):
    """The sum of the weights times the reads of all turns where the text ends with the window."""
    return sum([_weight(standing, turn, shares) * len(turn.reads) for turn in last(turns(searcher, standing))])
