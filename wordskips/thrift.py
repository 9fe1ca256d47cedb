"""The searcher that is cheapest on the average."""

from wordskips.chains import gains_and_heights
from wordskips.checks import copied, is_table, is_whole
from wordskips.errors import BadPlace, NoPartial, TooMany
from wordskips.fitting import Fitting
from wordskips.ratios import Ratio
from wordskips.searchers import Searcher
from wordskips.words import check_words, slid

MOST_PARTIALS = 31


class Thrift:
    """The least mean of a searcher that is right, what shows it, and such a searcher."""

    def __init__(self, mean, heights, choices, searcher):
        self.mean = mean
        self.heights = copied(heights)
        self.choices = copied(choices)
        self.searcher = searcher


def partials(letters, words):
    """The open partial words that come up, a tuple, ascending."""
    return tuple(list(_table(letters, words)))


def moves(letters, words, partial, place):
    """For each letter that may be read at a place of a partial word: the slide, the number told, what is known then."""
    table = _table(letters, words)
    if not isinstance(partial, str) or partial not in table:
        raise NoPartial(partial)
    if not is_whole(place, 0, len(partial) - 1) or place not in table[partial]:
        raise BadPlace(place)
    return table[partial][place]


def thrift(letters, words):
    """The cheapest searcher on the average, as a Thrift."""
    table = _table(letters, words)
    numbers = {partial: number for number, partial in enumerate(table)}
    options = [{place: [(weight, paid, slide, numbers[after]) for weight, paid, slide, after in
                        _ways(table[partial][place])] for place in table[partial]} for partial in table]
    places, mean, heights = _cheapest(options)
    first = "." * len(words[0])
    least = heights[numbers[first]]
    choices = {partial: places[numbers[partial]] for partial in table}
    searcher = Searcher(letters, len(first), _states(table, choices, first))
    return Thrift(mean, {partial: heights[numbers[partial]] - least for partial in table}, choices, searcher)


def is_thrift(letters, words, thrift):
    """Whether the mean, the heights and the choices are as told."""
    table = _table(letters, words)
    heights, choices = thrift.heights, thrift.choices
    if not isinstance(thrift.mean, Ratio) or not is_table(heights, table) or not is_table(choices, table):
        return False
    if not all([isinstance(heights[partial], Ratio) for partial in table]) or heights["." * len(words[0])] != Ratio(0):
        return False
    for partial in table:
        if not is_whole(choices[partial], 0, len(partial) - 1) or choices[partial] not in table[partial]:
            return False
        for place in table[partial]:
            cost = _cost(_ways(table[partial][place]), thrift.mean, heights).divided(len(letters))
            if cost.is_less(heights[partial]) or (place == choices[partial] and cost != heights[partial]):
                return False
    return True


def _ways(rows):
    """The moves at a place as those of a chain: each letter is equally likely and costs a read."""
    return [(1, 1, slide, after) for slide, _, after in rows]


def _table(letters, words):
    """A dict from the open partial words that come up, ascending, to dicts from their places with a dot to moves."""
    check_words(letters, words)
    fitting = Fitting(words)
    found = {}
    waiting = ["." * len(words[0])]
    while waiting:
        partial = waiting.pop()
        if partial not in found:
            places = [place for place, sign in enumerate(partial) if sign == "."]
            found[partial] = {place: _moves(letters, words, fitting, partial, place) for place in places}
            waiting.extend([after for place in places for _, _, after in found[partial][place]])
    if len(found) > MOST_PARTIALS:
        raise TooMany("partial words", len(found), MOST_PARTIALS)
    return {partial: found[partial] for partial in sorted(list(found))}


def _moves(letters, words, fitting, partial, place):
    """The moves of an open partial word; behind a slide it is open, as its last place is not known."""
    found = []
    for letter in letters:
        more = partial[:place] + letter + partial[place + 1:]
        if "." in more and fitting.can(more, 0):
            found.append((0, None, more))
        else:
            slide = fitting.least(more, 1)
            number = words.index(more) if more in words else None
            found.append((slide, number, slid(more, slide)))
    return tuple(found)


def _cheapest(options):
    """The places that are taken, one for each node, what a letter costs by them, and the heights of the nodes.

    The options of a node are a dict from places to moves, as in chains. Places are bettered until none can be. From
    each node some letters lead to the partial word behind a word that is told, whatever is taken, so all gains are one.
    """
    choices = [min(list(places)) for places in options]
    while True:
        gains, heights = gains_and_heights([places[choice] for places, choice in zip(options, choices)])
        better = [_better(places, choice, gains[0], heights) for places, choice in zip(options, choices)]
        if better == choices:
            return choices, gains[0], heights
        choices = better


def _better(places, choice, mean, heights):
    """A place whose moves cost less than those of the choice, the choice if there is none."""
    least = _cost(places[choice], mean, heights)
    for place in places:
        cost = _cost(places[place], mean, heights)
        if cost.is_less(least):
            choice, least = place, cost
    return choice


def _cost(ways, mean, heights):
    """The sum of what some moves cost, less what their letters cost in the mean, and of the heights behind them."""
    cost = Ratio(0)
    for _, paid, length, end in ways:
        cost = cost + heights[end] - mean * length + paid
    return cost


def _states(table, choices, first):
    """The trees of the searcher that reads by choices; its states are the partial words behind its slides."""
    met = {first: 0}
    trees = []
    while len(trees) < len(met):
        trees.append(_tree(table, choices, list(met)[len(trees)], met))
    return trees


def _tree(table, choices, partial, met):
    """The tree that goes on with a partial word; those behind its slides get numbers."""
    place = choices[partial]
    trees = []
    for slide, number, after in table[partial][place]:
        if slide == 0:
            trees.append(_tree(table, choices, after, met))
        else:
            if after not in met:
                met[after] = len(met)
            go = ("go", slide, met[after])
            trees.append(go if number is None else ("tell", number, go))
    return ("read", place, trees)
