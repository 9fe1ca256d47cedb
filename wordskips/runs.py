"""Searches in told texts."""

from wordskips.checks import wrong_sign
from wordskips.errors import BadText, TooMany
from wordskips.trees import followed

MOST_LETTERS = 5000


class Trace:
    """What a search did: its windows (place, state, reads), the pairs that it told, and its cost."""

    def __init__(self, windows, told):
        self.windows = windows
        self.told = told
        self.cost = sum([len(reads) for _, _, reads in windows])


def trace(searcher, text):
    """The search in a text, as a Trace."""
    wrong = wrong_sign(searcher.letters, text)
    if wrong is not None:
        raise BadText(wrong)
    if len(text) > MOST_LETTERS:
        raise TooMany("letters", len(text), MOST_LETTERS)
    return searched(searcher, text)


def searched(searcher, text):
    """The search in a text of the letters, however long it is."""
    windows = []
    told = []
    place, state = 0, 0
    while place + searcher.width <= len(text):
        signs = text[place:place + searcher.width + 1]
        reads, tells, go = followed(searcher.states[state], searcher.letters, signs)
        windows.append((place, state, reads))
        told.extend([(place, number) for number in tells])
        if go is None:
            break
        _, slide, state = go
        place += slide
    return Trace(tuple(windows), tuple(told))
