"""Whether searchers are right for words, or a text that shows that they are not."""

from wordskips.checks import is_integer, is_wish, is_whole
from wordskips.errors import BadWish, BadWords
from wordskips.fitting import Fitting
from wordskips.knowledge import first_standing, turns
from wordskips.runs import searched
from wordskips.walks import explored, nearest, pieces_to, spelled
from wordskips.words import check_words, fits, wanted


class Right:
    """A searcher that tells over each text what is wanted, with the rows that show it."""

    def __init__(self, searcher, words, wish, rows):
        self.searcher = searcher
        self.words = tuple(words)
        self.wish = wish
        self.rows = tuple([tuple(row) for row in rows])


class Wrong:
    """A searcher with a text over which it does not tell what is wanted."""

    def __init__(self, searcher, words, wish, text):
        self.searcher = searcher
        self.words = tuple(words)
        self.wish = wish
        self.text = text


class Judge:
    """What is wanted of the turns of a searcher."""

    def __init__(self, searcher, words, wish):
        self._letters = searcher.letters
        self._width = searcher.width
        self._words = words
        self._wish = wish
        self._fitting = Fitting(words)

    def goes_on(self, turn):
        """Whether something is asked behind a turn."""
        return not turn.is_cut and not (self._wish == "first" and turn.tells)

    def row_behind(self, shut, turn):
        """The row behind a turn from a standing at which so many windows are shut."""
        state, known = turn.after
        if self._wish == "apart" and turn.tells:
            shut = self._width
        return (state, known, max(0, shut - turn.slide))

    def fault(self, shut, turn):
        """None if a turn does what is wanted; otherwise (size, place, signs), for the shortest text that shows it.

        The text has size letters from the window on, and these signs at this place of the window.
        """
        tells = turn.tells[:1] if self._wish == "first" else turn.tells
        shown = self._wrong_tell(shut, tells, turn.known)
        if shown is None and shut == 0:
            shown = self._missed_here(tells, turn.known)
        if shown is not None:
            place, signs = shown
            return self._width if turn.known.endswith(".") else self._width + 1, place, signs
        if not self.goes_on(turn):
            return None
        if self._wish == "apart" and tells:
            shut = self._width
        offset = self._fitting.least(turn.known, max(1, shut))
        if offset >= turn.slide:
            return None
        word = [word for word in self._words if fits(turn.known, word, offset)][0]
        return self._width + offset, offset, word

    def _wrong_tell(self, shut, tells, known):
        """None if all is right that is told; otherwise a place of the window and signs that make it wrong."""
        for index, number in enumerate(tells):
            if shut != 0 or number >= len(self._words) or number in tells[:index]:
                return 0, known
            for place, letter in enumerate(self._words[number]):
                if known[place] != letter:
                    others = [other for other in self._letters if other != letter]
                    return place, others[0] if known[place] == "." else known[place]
        return None

    def _missed_here(self, tells, known):
        """None if no word that is not told can stand at the window; otherwise place 0 and the word."""
        if self._fitting.can(known, 0):
            for number, word in enumerate(self._words):
                if number not in tells and fits(known, word, 0):
                    return 0, word
        return None


def verdict(searcher, words, wish="all"):
    """Right, or Wrong with a text of least length."""
    check_for(searcher, words)
    if not is_wish(wish):
        raise BadWish(wish)
    judge = Judge(searcher, tuple(words), wish)

    def steps_from(row):
        state, known, shut = row
        return [(0, turn.slide, judge.row_behind(shut, turn), turn.known)
                for turn in turns(searcher, (state, known)) if judge.goes_on(turn)]

    first = (*first_standing(searcher), 0)
    steps = explored(first, steps_from, "standings")
    text = _wrong_text(searcher, judge, steps, nearest(steps, first))
    if text is None:
        return Right(searcher, words, wish, list(steps))
    return Wrong(searcher, words, wish, text)


def is_right(right):
    """Whether the rows show that the searcher is right."""
    searcher = right.searcher
    judge = Judge(searcher, right.words, right.wish)
    rows = {row: True for row in right.rows}
    if (*first_standing(searcher), 0) not in rows or not all([_is_row(searcher, row) for row in rows]):
        return False
    for state, known, shut in rows:
        for turn in turns(searcher, (state, known)):
            if judge.fault(shut, turn) is not None:
                return False
            if judge.goes_on(turn) and judge.row_behind(shut, turn) not in rows:
                return False
    return True


def is_wrong(wrong):
    """Whether what is told over the text is not what is wanted."""
    return how_wrong(wrong) is not None


def how_wrong(wrong):
    """Whether a pair is "told" that is not wanted, or one twice, or one is "missed"; None if nothing is wrong."""
    pairs = wanted(wrong.searcher.letters, wrong.words, wrong.text, wrong.wish)
    told = list(searched(wrong.searcher, wrong.text).told)
    if wrong.wish == "first":
        told = told[:1]
    if told == pairs:
        return None
    if len(set(told)) < len(told) or any([pair not in pairs for pair in told]):
        return "told"
    return "missed"


def check_for(searcher, words):
    """Raise BadWords unless these are words for the searcher."""
    check_words(searcher.letters, words)
    if len(words[0]) != searcher.width:
        raise BadWords(0)


def _is_row(searcher, row):
    """Whether a triple is a standing and a number."""
    state, known, shut = row
    if not is_whole(state, 0, len(searcher.states) - 1) or not isinstance(known, str) or not is_integer(shut):
        return False
    return len(known) == searcher.width + 1 and all([sign == "." or sign in searcher.letters for sign in known])


def _wrong_text(searcher, judge, steps, entered):
    """A text of least length at which a turn from one of the rows has a fault, None if there is no fault."""
    best = None
    for row in steps:
        state, known, shut = row
        for turn in turns(searcher, (state, known)):
            fault = judge.fault(shut, turn)
            if fault is not None and (best is None or entered[row][0] + fault[0] < best[0]):
                best = (entered[row][0] + fault[0], row, turn.known, fault)
    if best is None:
        return None
    size, row, known, (_, place, signs) = best
    begin = entered[row][0]
    pieces = [*pieces_to(entered, row), (begin, known), (begin + place, signs)]
    return spelled(searcher.letters, size, pieces)
