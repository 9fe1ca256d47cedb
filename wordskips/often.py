"""How often a search can read one letter of a text."""

from wordskips.knowledge import first_standing, standings, turns, whole
from wordskips.walks import dearest, nearest, pieces_to, spelled


class Often:
    """The greatest number of times that one letter is read, with a text and its place there."""

    def __init__(self, most, text, place):
        self.most = most
        self.text = text
        self.place = place


def often(searcher):
    """How often a search can read one letter, as an Often."""
    steps = {standing: _steps_by_place(searcher, standing) for standing in standings(searcher)}
    reads = {}
    for at in range(searcher.width + 1):
        for standing in steps:
            reads[(standing, at)] = max([_reads_from(reads, step, at) for step in steps[standing][at]])
    standing, at = max(list(reads), key=lambda pair: reads[pair])
    most = reads[(standing, at)]
    entered = nearest({node: steps[node][0] for node in steps}, first_standing(searcher))
    pieces = pieces_to(entered, standing)
    place = entered[standing][0]
    letter = place + at
    while place <= letter:
        at = letter - place
        step = [step for step in steps[standing][at] if _reads_from(reads, step, at) == reads[(standing, at)]][0]
        _, slide, standing, known = step
        pieces.append((place, known))
        size = place + searcher.width if known.endswith(".") else place + searcher.width + 1
        place += slide
    return Often(most, spelled(searcher.letters, size, pieces), letter)


def _steps_by_place(searcher, standing):
    """For each place of the window the steps from a standing; what they cost is how often this place is read."""
    found = whole(turns(searcher, standing))
    by_place = []
    for at in range(searcher.width + 1):
        by_place.append(dearest([(_times(turn, at), turn.slide, turn.after, turn.known) for turn in found]))
    return by_place


def _times(turn, at):
    return [place for place, _ in turn.reads].count(at)


def _reads_from(reads, step, at):
    """How often the letter at this place of the window is read in a step and behind it."""
    times, slide, after, _ = step
    return times + reads.get((after, at - slide), 0)
