"""Two searchers that search one text: which one reads more, and by how much at most."""

from wordskips.checks import copied, is_integer, is_table, wrong_sign
from wordskips.errors import NoJoint, OtherLetters, OtherWidth
from wordskips.knowledge import last, turns, whole
from wordskips.ratios import Ratio
from wordskips.runs import searched
from wordskips.trees import all_parts
from wordskips.walks import (
    END, best_round, dearest, explored, nearest, pieces_to, spelled, with_ends, worthiest, worths)

FIRST = (0, 0, 0, "")
# More letters than a way over all joints has, each once: differences come first, then fewer letters.
SCALE = 10 ** 6


class Lead:
    """By how much one searcher reads more than another one at most, a letter and in all, and what shows it."""

    def __init__(self, pace, heights, front, ring, most, tops, text):
        self.pace = pace
        self.heights = copied(heights)
        self.front = front
        self.ring = ring
        self.most = most
        self.tops = copied(tops)
        self.text = text


class Duel:
    """Two searchers of the same letters and of one width that search one text."""

    def __init__(self, one, other):
        if one.letters != other.letters:
            raise OtherLetters()
        if one.width != other.width:
            raise OtherWidth()
        self._one = one
        self._other = other
        self._reach = [_reach(tree) for tree in other.states]
        self.letters = one.letters
        self.width = one.width

    def steps(self):
        """A dict from the joints that come up to their steps: rounds by their differences, the greatest ones."""

        def steps_from(joint):
            return dearest([_step(joint, play) for play in self.plays(joint, whole)])

        return explored(FIRST, steps_from, "joints")

    def ended(self, steps):
        """The steps, and those with which the text ends."""
        ends = {}
        for joint in steps:
            play = max(self.plays(joint, last), key=_difference)
            ends[joint] = (_difference(play), _known(play))
        return with_ends(steps, ends, self.width)

    def plays(self, joint, taken):
        """The pairs of turns that a round may have; None stands for the one whose window is not the lesser.

        taken(turns) are those of some turns that are taken in the round: whole or last ones.
        """
        state, against, lag, known = joint
        signs = known.ljust(self.width + 1, ".")
        if lag > 0:
            return [(None, turn) for turn in taken(turns(self._other, (against, signs)))]
        found = taken(turns(self._one, (state, signs)))
        if lag < 0:
            return [(turn, None) for turn in found]
        places, least = self._reach[against]
        return [(turn, answer) for turn in _told_apart(found, places, least)
                for answer in taken(turns(self._other, (against, turn.known)))]

    def difference_on(self, text):
        """By how many reads the first one does more over a text than the second one."""
        return searched(self._one, text).cost - searched(self._other, text).cost


def joints(one, other):
    """The joints that come up, a tuple, ascending."""
    return tuple(list(Duel(one, other).steps()))


def rounds(one, other, joint):
    """The triples (difference, letters, next joint) of the rounds that are not last ones."""
    duel = _duel_at(one, other, joint)
    found = [_step(joint, play) for play in duel.plays(joint, whole)]
    return tuple(sorted({(difference, letters, end) for difference, letters, end, _ in found}))


def lasts(one, other, joint):
    """The differences of the last rounds."""
    duel = _duel_at(one, other, joint)
    return tuple(sorted({_difference(play) for play in duel.plays(joint, last)}))


def lead(one, other):
    """By how much the first one reads more than the second one at most, as a Lead."""
    duel = Duel(one, other)
    steps = duel.steps()
    ring, front, around = best_round(duel.letters, steps, FIRST)
    if Ratio(0).is_less(ring.ratio):
        return Lead(ring.ratio, ring.heights, front, around, None, None, None)
    ended = duel.ended(steps)
    worth = worths(ended, SCALE, 1)
    tops = {joint: -(-worth[joint] // SCALE) for joint in steps}
    most = max(0, tops[FIRST])
    text = worthiest(duel.letters, ended, worth, SCALE, 1, FIRST) if most > 0 else ""
    return Lead(ring.ratio, ring.heights, front, around, most, tops, text)


def is_lead(one, other, lead):
    """Whether all is as told but that the text may be longer than needed."""
    duel = Duel(one, other)
    steps = duel.steps()
    if not isinstance(lead.pace, Ratio) or not _is_pace(duel, lead, steps):
        return False
    if Ratio(0).is_less(lead.pace):
        return lead.most is None and lead.tops is None and lead.text is None
    return _is_most(duel, lead, duel.ended(steps))


def other_places(one, other):
    """A text of least length on which they do not tell the same pairs, None if there is none."""
    duel = Duel(one, other)
    steps = duel.steps()
    entered = nearest(steps, FIRST)
    best = None
    for joint in steps:
        for taken, letters in ((last, duel.width), (whole, duel.width + 1)):
            size = entered[joint][0] + letters
            if best is None or size < best[0]:
                plays = [play for play in duel.plays(joint, taken) if not _tells_alike(play)]
                best = (size, joint, _known(plays[0])) if plays else best
    if best is None:
        return None
    size, joint, known = best
    return spelled(duel.letters, size, [*pieces_to(entered, joint), (entered[joint][0], known)])


def _duel_at(one, other, joint):
    """The duel; raise NoJoint unless a value is a joint that comes up in it."""
    duel = Duel(one, other)
    found = duel.steps()
    is_like = isinstance(joint, tuple) and len(joint) == 4 and isinstance(joint[3], str)
    if not is_like or not all([is_integer(part) for part in joint[:3]]) or joint not in found:
        raise NoJoint(joint)
    return duel


def _reach(tree):
    """A dict of the places that a tree reads, as its keys, and its least slide."""
    parts = all_parts(tree)
    places = {number: True for head, number, _ in parts if head == "read"}
    return places, min([number for head, number, _ in parts if head == "go"])


def _told_apart(found, places, least):
    """Of some turns just the first of those that differ in letters for which nothing asks any more.

    The other searcher reads these places at this window, and slides by this much or more.
    """
    kept = {}
    for turn in found:
        state, slide = (None, least) if turn.is_cut else (turn.after[0], turn.slide)
        rest = min(slide, least)
        asked = "".join([sign for place, sign in enumerate(turn.known) if place >= rest or place in places])
        key = (len(turn.reads), turn.tells, state, slide, asked)
        if key not in kept:
            kept[key] = turn
    return list(kept.values())


def _difference(play):
    turn, answer = play
    return (0 if turn is None else len(turn.reads)) - (0 if answer is None else len(answer.reads))


def _known(play):
    """What is known at the end of a round of the letters from the lesser window on."""
    turn, answer = play
    return turn.known if answer is None else answer.known


def _tells_alike(play):
    """Whether both tell the same pairs at the lesser window; one whose window is not there never tells any."""
    turn, answer = play
    tells = () if turn is None else turn.tells
    return sorted(set(tells)) == sorted(set(() if answer is None else answer.tells))


def _step(joint, play):
    """A round as a step: its difference, its letters, the next joint, and what is known ahead of it."""
    turn, answer = play
    state, against, lag, _ = joint
    place, place_against = max(0, lag), max(0, -lag)
    if turn is not None:
        state, place = turn.after[0], place + turn.slide
    if answer is not None:
        against, place_against = answer.after[0], place_against + answer.slide
    letters = min(place, place_against)
    known = _known(play)
    return _difference(play), letters, (state, against, place - place_against, known[letters:].rstrip(".")), known


def _is_pace(duel, lead, steps):
    """Whether no ring of rounds has a greater ratio, by the heights, and the told ring has this one."""
    heights = lead.heights
    if not is_table(heights, steps) or not all([isinstance(heights[joint], Ratio) for joint in steps]):
        return False
    for joint in steps:
        for difference, letters, end, _ in steps[joint]:
            if heights[joint].is_less(heights[end] - lead.pace * letters + difference):
                return False
    if wrong_sign(duel.letters, lead.front) is not None or wrong_sign(duel.letters, lead.ring) is not None:
        return False
    more = [duel.difference_on(lead.front + lead.ring * times) for times in (9, 10, 11)]
    rise = lead.pace * len(lead.ring)
    return lead.ring != "" and rise == Ratio(more[1] - more[0]) and rise == Ratio(more[2] - more[1])


def _is_most(duel, lead, ended):
    """Whether no difference is above the told most, by the tops, and the told text has this one."""
    tops = lead.tops
    if not is_integer(lead.most) or not is_table(tops, ended) or not all([is_integer(tops[joint]) for joint in ended]):
        return False
    for joint in ended:
        for difference, _, end, _ in ended[joint]:
            if tops[joint] < difference + (0 if end == END else tops[end]):
                return False
    if lead.most != max(0, tops[FIRST]) or wrong_sign(duel.letters, lead.text) is not None:
        return False
    return duel.difference_on(lead.text) == lead.most
