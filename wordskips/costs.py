"""The most letters that a text can make a searcher read."""

from wordskips.checks import is_whole
from wordskips.errors import BadSize
from wordskips.knowledge import first_standing, last, steps_of, turns
from wordskips.ratios import Ratio
from wordskips.walks import best_round, spelled, with_ends, worths

GREATEST_SIZE = 300


class Costs:
    """The greatest costs of a searcher, for each size of text and for all."""

    def __init__(self, searcher):
        first = first_standing(searcher)
        steps = steps_of(searcher)
        ends = {standing: _dearest_end(searcher, standing) for standing in steps}
        ring, front, around = best_round(searcher.letters, steps, first)
        # No ring costs more than it is charged, so that there is a greatest sum.
        most = worths(with_ends(steps, ends, searcher.width), ring.ratio.over, ring.ratio.number)
        self.dearest = ring.ratio
        self.front = front
        self.ring = around
        self.heights = ring.heights
        self.extra = Ratio(most[first], ring.ratio.over)
        # From here on a standing is told by its place among all; the first one is the least of all.
        places = {standing: place for place, standing in enumerate(steps)}
        self._letters = searcher.letters
        self._width = searcher.width
        self._steps = [[(paid, slide, places[after], known) for paid, slide, after, known in steps[standing]]
                       for standing in steps]
        self._ends = [ends[standing] for standing in steps]
        # The greatest costs for each number of letters from the window on, worked out as far as they were asked for.
        self._greatest = [[0 for _ in steps] for _ in range(searcher.width)]
        self._greatest.append([paid for paid, _ in self._ends])

    def worst(self, size):
        """The greatest cost of a text of this size."""
        if not is_whole(size, 0, GREATEST_SIZE):
            raise BadSize(size)
        greatest = self._greatest
        while len(greatest) <= size:
            many = len(greatest)
            greatest.append([max([paid + greatest[many - slide][after] for paid, slide, after, _ in steps])
                             for steps in self._steps])
        return greatest[size][0]

    def slowest(self, size):
        """A text of this size with this cost."""
        cost = self.worst(size)
        pieces = []
        standing, place = 0, 0
        while size - place > self._width:
            best = [step for step in self._steps[standing]
                    if step[0] + self._greatest[size - place - step[1]][step[2]] == cost]
            paid, slide, standing, known = best[0]
            pieces.append((place, known))
            cost -= paid
            place += slide
        if size - place == self._width:
            pieces.append((place, self._ends[standing][1]))
        return spelled(self._letters, size, pieces)


def costs(searcher):
    """The greatest costs of a searcher, as a Costs."""
    return Costs(searcher)


def _dearest_end(searcher, standing):
    """The reads, and what is known, of a dearest turn where the text ends with the window."""
    turn = max(last(turns(searcher, standing)), key=lambda ended: len(ended.reads))
    return len(turn.reads), turn.known
