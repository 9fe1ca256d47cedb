"""Searchers for one word that people use."""

from wordskips.errors import BadWay
from wordskips.searchers import Searcher
from wordskips.words import check_words, fits, slid


def made(letters, word, way):
    """The searcher for one word that is made this way."""
    check_words(letters, [word])
    if not isinstance(way, str) or way not in WAYS:
        raise BadWay(way)
    states_of = WAYS[way]
    return Searcher(letters, len(word), states_of(letters, word))


def _borders(word):
    """border(0) to border(m) of a word of m letters."""
    found = [-1]
    for size in range(1, len(word) + 1):
        found.append(max([less for less in range(size) if word[:size].endswith(word[:less])]))
    return found


def _period(word):
    return len(word) - _borders(word)[len(word)]


def _steps_down(borders, size):
    """border(size), border(border(size)) .. down to -1."""
    steps = [borders[size]]
    while steps[-1] >= 0:
        steps.append(borders[steps[-1]])
    return steps


def _reading(letters, word, places, unlike, end):
    """The tree that reads the places in their order until a letter is unlike the one of the word.

    unlike(place, letter) is the tree behind such a letter, end the one behind all like.
    """
    tree = end
    for place in reversed(places):
        tree = ("read", place, [tree if letter == word[place] else unlike(place, letter) for letter in letters])
    return tree


def _from_left(letters, word, unlike):
    """States 0 to m - 1; each one reads the places from its own number on."""
    size = len(word)
    border = _borders(word)[size]
    end = ("tell", 0, ("go", size - border, border))
    return [_reading(letters, word, list(range(state, size)), unlike, end) for state in range(size)]


def _by_borders(letters, word):
    borders = _borders(word)

    def unlike(place, _):
        return ("go", place - borders[place], max(0, borders[place]))

    return _from_left(letters, word, unlike)


def _by_strict_borders(letters, word):
    borders = _borders(word)

    def unlike(place, _):
        steps = [step for step in _steps_down(borders, place) if step == -1 or word[step] != word[place]]
        return ("go", place - steps[0], max(0, steps[0]))

    return _from_left(letters, word, unlike)


def _by_letters(letters, word):
    borders = _borders(word)

    def unlike(place, letter):
        steps = [step for step in _steps_down(borders, place) if step == -1 or word[step] == letter]
        return ("go", place - steps[0], steps[0] + 1)

    return _from_left(letters, word, unlike)


def _one_from_left(letters, word, behind):
    """One state that reads from the left; behind is the tree behind an unlike letter and behind a tell."""

    def unlike(place, _):
        return behind

    return [_reading(letters, word, list(range(len(word))), unlike, ("tell", 0, behind))]


def _plain(letters, word):
    return _one_from_left(letters, word, ("go", 1, 0))


def _by_last_letter(letters, word):
    last = len(word) - 1
    slides = [("go", last - word[:last].rfind(letter), 0) for letter in letters]
    return _one_from_left(letters, word, ("read", last, slides))


def _by_letter_behind(letters, word):
    size = len(word)
    slides = [("go", size - word.rfind(letter), 0) for letter in letters]
    return _one_from_left(letters, word, ("read", size, slides))


def _from_right(letters, word, slide, least_place, end):
    """A tree that reads from the right down to a place; slide(place, letter) is by how much it goes."""

    def unlike(place, letter):
        return ("go", slide(place, letter), 0)

    places = list(range(least_place, len(word)))
    places.reverse()
    return _reading(letters, word, places, unlike, ("tell", 0, end))


def _bad_letter_slide(word, place, letter):
    return place - word[:place].rfind(letter)


def _good_end_slide(word, place):
    """The least slide by which what was like on the right of a place is like again, and the place is not."""
    size = len(word)
    for by in range(1, size):
        first = max(place + 1, by)
        is_like = word[first:] == word[first - by:size - by]
        if is_like and (by > place or word[place - by] != word[place]):
            return by
    return size


def _by_bad_letter(letters, word):

    def slide(place, letter):
        return _bad_letter_slide(word, place, letter)

    return [_from_right(letters, word, slide, 0, ("go", 1, 0))]


def _by_good_end(letters, word):

    def slide(place, _):
        return _good_end_slide(word, place)

    return [_from_right(letters, word, slide, 0, ("go", _period(word), 0))]


def _by_both_down_to(letters, word, least_place, end):

    def slide(place, letter):
        return max(_bad_letter_slide(word, place, letter), _good_end_slide(word, place))

    return _from_right(letters, word, slide, least_place, end)


def _by_both(letters, word):
    return [_by_both_down_to(letters, word, 0, ("go", _period(word), 0))]


def _by_both_and_known(letters, word):
    period = _period(word)
    border = len(word) - period
    if border == 0:
        return _by_both(letters, word)
    end = ("go", period, 1)
    return [_by_both_down_to(letters, word, least_place, end) for least_place in (0, border)]


def _by_all_knowledge(letters, word):
    """A state for each known that is met."""
    numbers = {"." * (len(word) + 1): 0}
    states = []
    while len(states) < len(numbers):
        known = list(numbers)[len(states)]
        places = [place for place in range(len(word)) if known[place] == "."]
        states.append(_known_tree(letters, word, known, places, numbers))
    return states


def _known_tree(letters, word, known, places, numbers):
    """The tree that reads the places from the last one on; knowns that it meets get numbers."""
    if not places:
        return ("tell", 0, _known_go(word, known, numbers))
    place = places[-1]
    trees = []
    for letter in letters:
        more = known[:place] + letter + known[place + 1:]
        if letter == word[place]:
            trees.append(_known_tree(letters, word, more, places[:-1], numbers))
        else:
            trees.append(_known_go(word, more, numbers))
    return ("read", place, trees)


def _known_go(word, known, numbers):
    """The go by the least slide at which the word fits what is known."""
    slide = min([by for by in range(1, len(word) + 1) if fits(known, word, by)])
    after = slid(known, slide)
    if after not in numbers:
        numbers[after] = len(numbers)
    return ("go", slide, numbers[after])


WAYS = {
    "borders": _by_borders,
    "strict borders": _by_strict_borders,
    "by letters": _by_letters,
    "plain": _plain,
    "last letter": _by_last_letter,
    "letter behind": _by_letter_behind,
    "bad letter": _by_bad_letter,
    "good end": _by_good_end,
    "both": _by_both,
    "both and known": _by_both_and_known,
    "all knowledge": _by_all_knowledge,
}
