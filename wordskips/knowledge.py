"""Standings: a state, and what is known of the window when its turn begins."""

from wordskips.walks import dearest, explored
from wordskips.words import slid


class Turn:
    """A turn from a standing: its reads and tells, what is known at its end, the slide and the standing behind it."""

    def __init__(self, reads, tells, known, slide, after):
        self.reads = reads
        self.tells = tells
        self.known = known
        self.slide = slide
        self.after = after

    @property
    def is_cut(self):
        """Whether the text ends where the letter behind the window would be read."""
        return self.slide is None


def turns(searcher, standing):
    """The list of the turns from a standing, cut ones too, in the order of the trees."""
    letters = searcher.letters
    state, begun = standing
    found = []
    waiting = [(searcher.states[state], begun, (), ())]
    while waiting:
        (head, number, rest), known, reads, tells = waiting.pop()
        if head == "go":
            found.append(Turn(reads, tells, known, number, (rest, slid(known, number))))
        elif head == "tell":
            waiting.append((rest, known, reads, (*tells, number)))
        elif known[number] != ".":
            letter = known[number]
            waiting.append((rest[letters.index(letter)], known, (*reads, (number, letter)), tells))
        else:
            if number == searcher.width:
                found.append(Turn(reads, tells, known, None, None))
            ahead, behind = known[:number], known[number + 1:]
            for letter, tree in reversed(list(zip(letters, rest))):
                waiting.append((tree, ahead + letter + behind, (*reads, (number, letter)), tells))
    return found


def standings(searcher):
    """The standings that come up, a tuple, ascending."""
    return tuple(list(steps_of(searcher)))


def first_standing(searcher):
    """The standing at which a search begins."""
    return (0, "." * (searcher.width + 1))


def steps_of(searcher):
    """A dict from the standings that come up to their steps: turns by the number of their reads, the dearest ones."""

    def steps_from(standing):
        return dearest([(len(turn.reads), turn.slide, turn.after, turn.known)
                        for turn in whole(turns(searcher, standing))])

    return explored(first_standing(searcher), steps_from, "standings")


def whole(found):
    """Those of some turns that are not cut."""
    return [turn for turn in found if not turn.is_cut]


def last(found):
    """Those of some turns that may be taken where the text ends with the window."""
    return [turn for turn in found if turn.known.endswith(".")]
