"""Searchers of rows that slide as far as they can."""

from wordskips.checks import is_list, is_whole
from wordskips.errors import BadOrder
from wordskips.fitting import Fitting
from wordskips.knowledge import standings, turns, whole
from wordskips.searchers import Searcher
from wordskips.verdicts import check_for
from wordskips.words import check_words, slid


class Maker:
    """Makes the states of best; each one is told by what it remembers, a known."""

    def __init__(self, letters, words, order, behind):
        self._letters = letters
        self._width = len(words[0])
        self._numbers = {word: number for number, word in enumerate(words)}
        self._order = tuple(order)
        self._behind = behind is True
        self._fitting = Fitting(words)
        self._met = {"." * (self._width + 1): 0}

    def all_trees(self):
        """The trees of all states, in the order in which they are met."""
        trees = []
        while len(trees) < len(self._met):
            trees.append(self._tree(list(self._met)[len(trees)]))
        return trees

    def _tree(self, known):
        """The tree that goes on with this knowledge of a window."""
        missing = [place for place in self._order if known[place] == "."]
        if missing and self._fitting.can(known, 0):
            return ("read", missing[0], [self._tree(more) for more in self._read(known, missing[0])])
        if self._behind:
            behind = ("read", self._width, [self._go(more) for more in self._read(known, self._width)])
        else:
            behind = self._go(known)
        word = known[:self._width]
        return ("tell", self._numbers[word], behind) if word in self._numbers else behind

    def _read(self, known, place):
        """What is known when a place has been read, for each letter."""
        return [known[:place] + letter + known[place + 1:] for letter in self._letters]

    def _go(self, known):
        """The go by the least slide to where some word can stand."""
        slide = self._fitting.least(known, 1)
        after = self._remembered(slid(known, slide))
        if after not in self._met:
            self._met[after] = len(self._met)
        return ("go", slide, self._met[after])

    def _remembered(self, known):
        """What is known of the longest beginning of the order that is known, but not of all places."""
        kept = ["." for _ in known]
        for place in self._order[:-1]:
            if known[place] == ".":
                break
            kept[place] = known[place]
        return "".join(kept)


def best(letters, words, order, behind=False):
    """The searcher that reads in this order and slides as far as what it remembers and reads lets it."""
    check_words(letters, words)
    if not _is_order(order, len(words[0])):
        raise BadOrder(order)
    return Searcher(letters, len(words[0]), Maker(letters, words, order, behind).all_trees())


def room(searcher, words):
    """The tuple of all (state, path, slide, greatest) at which the searcher could slide farther."""
    check_for(searcher, words)
    fitting = Fitting(words)
    greatest = {}
    for standing in standings(searcher):
        for turn in whole(turns(searcher, standing)):
            path = "".join([letter for _, letter in turn.reads])
            row = (standing[0], path, turn.slide)
            greatest[row] = min(fitting.least(turn.known, 1), greatest.get(row, searcher.width + 1))
    return tuple(sorted([(*row, greatest[row]) for row in greatest if row[2] < greatest[row]]))


def _is_order(value, width):
    """Whether a value is a list of all places of a window, each once."""
    if not is_list(value) or len(value) != width:
        return False
    return all([is_whole(place, 0, width - 1) for place in value]) and len(set(value)) == width
