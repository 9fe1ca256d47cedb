import itertools
import time
import unittest

from tests.plain import (
    Draws, any_values, changed, complete, made_ones, many_standings, renamed_letters, reordered, search, small_searcher,
    some_words, texts_up_to, told_twice, walked)
from tests.test_words import WRONG_WORDS, plainly_wanted
from wordskips.best import best
from wordskips.errors import BadWish, BadWords, SkipsError, TooMany
from wordskips.knowledge import standings
from wordskips.makers import made
from wordskips.searchers import Searcher
from wordskips.verdicts import Right, Wrong, how_wrong, is_right, is_wrong, verdict

WISHES = ("all", "apart", "first")
ONE = Searcher.read("ab 2\nread 1 [a: go 1 0, b: read 0 [a: tell 0 go 2 0, b: go 2 0]]")
TWO = Searcher.read("ab 2\nread 1 [a: go 2 0, b: read 0 [a: tell 0 go 2 0, b: go 2 0]]")


def fault_over(searcher, words, wish, text):
    """What how_wrong should be for a text."""
    return kind_of(search(searcher, text)[1], plainly_wanted(words, text, wish), wish)


def kind_of(told, pairs, wish):
    if wish == "first":
        told = told[:1]
    if told == pairs:
        return None
    return "missed" if all(told.count(pair) == 1 and pair in pairs for pair in told) else "told"


def shortest_wrong(searcher, words, size):
    """For each wish the least length of a text over which it is wrong, None if there is none of up to so many letters."""
    least = {}
    for text in texts_up_to(searcher.letters, size):
        told = search(searcher, text)[1]
        for wish in WISHES:
            if wish not in least and kind_of(told, plainly_wanted(words, text, wish), wish) is not None:
                least[wish] = len(text)
        if len(least) == len(WISHES):
            break
    return [least.get(wish) for wish in WISHES]


def can_stand(known, word, offset):
    return all(place >= len(known) or known[place] in (".", word[place - offset])
               for place in range(offset, offset + len(word)))


def turn_holds(width, words, wish, rows, shut, turn):
    """The conditions of the document for one turn from a row, written anew."""
    _, tells, known, slide, after = turn
    asked = tells[:1] if wish == "first" else tells
    for number in asked:
        if number >= len(words) or asked.count(number) > 1 or shut != 0 or known[:width] != words[number]:
            return False
    if shut == 0:
        for number, word in enumerate(words):
            if number not in asked and can_stand(known, word, 0):
                return False
    if slide is None or wish == "first" and tells:
        return True
    closed = width if wish == "apart" and tells else shut
    for offset in range(1, slide):
        if offset >= closed and any(can_stand(known, word, offset) for word in words):
            return False
    return (*after, max(0, closed - slide)) in rows


def holds(searcher, words, wish, rows, kept=None):
    """What is_right should be for rows; kept is a dict of turns that are walked already."""
    kept = {} if kept is None else kept
    for state, known, _ in rows:
        if (state, known) not in kept:
            kept[(state, known)] = walked(searcher, state, known)
    rows = [tuple(row) for row in rows]
    if (0, "." * (searcher.width + 1), 0) not in rows:
        return False
    return all(turn_holds(searcher.width, words, wish, rows, shut, turn)
               for state, known, shut in rows for turn in kept[(state, known)])


def rows_of(searcher, words, wish):
    """The rows that come up, written anew."""
    waiting = [(0, "." * (searcher.width + 1), 0)]
    found = set()
    while waiting:
        row = waiting.pop()
        if row not in found:
            found.add(row)
            for _, tells, _, slide, after in walked(searcher, *row[:2]):
                if slide is not None and not (wish == "first" and tells):
                    shut = searcher.width if wish == "apart" and tells else row[2]
                    waiting.append((*after, max(0, shut - slide)))
    return tuple(sorted(found))


def drawn_cases(seed, many):
    """Searchers with words: drawn ones, made ones, and such with a part or two otherwise."""
    draws = Draws(seed)
    cases = []
    for _ in range(many):
        searcher = small_searcher(draws)
        cases.append((searcher, some_words(draws, searcher.letters, searcher.width)))
    for searcher, words in made_ones():
        cases.append((searcher, words))
        cases.extend([(changed(draws, searcher), words) for _ in range(3)])
    for _ in range(many // 4):
        letters = draws.one_of(["ab", "cab"])
        width = 1 + draws.below(4 if letters == "ab" else 3)
        words = some_words(draws, letters, width)
        order = sorted(range(width), key=lambda place: draws.below(99))
        searcher = best(letters, words, order, draws.below(2) == 0)
        cases.extend([(searcher, words), (changed(draws, searcher), words), (searcher, words[1:] or words)])
    return cases


class Verdicts(unittest.TestCase):

    def check(self, searcher, words, wish, size, least):
        result = verdict(searcher, words, wish)
        self.assertEqual((result.searcher, result.words, result.wish), (searcher, tuple(words), wish))
        if isinstance(result, Right):
            self.assertIsNone(least, (searcher.written(), words, wish))
            self.assertTrue(is_right(result))
            self.assertTrue(holds(searcher, words, wish, result.rows))
            self.assertEqual(result.rows, rows_of(searcher, words, wish))
            return "right"
        self.assertIsInstance(result, Wrong)
        self.assertIs(is_wrong(result), True)
        kind = fault_over(searcher, words, wish, result.text)
        self.assertIsNotNone(kind)
        self.assertEqual(how_wrong(result), kind)
        if least is None:
            self.assertGreater(len(result.text), size)
        else:
            self.assertEqual(len(result.text), least, (searcher.written(), words, wish))
        return kind

    def test_against_all_short_texts(self):
        found = {(wish, kind): 0 for wish in WISHES for kind in ("right", "told", "missed")}
        for searcher, words in drawn_cases(81, 260):
            size = 7 if len(searcher.letters) == 2 else 5
            for wish, least in zip(WISHES, shortest_wrong(searcher, words, size)):
                found[(wish, self.check(searcher, words, wish, size, least))] += 1
        self.assertGreater(min(found.values()), 60, found)

    def test_long_least_texts(self):
        # It counts to five windows ahead of the one at which it does not look.
        trees = [complete("ab", [0, 1], lambda read, state=state: (
            ("tell", 0, ("go", 1, state + 1)) if read == "ab" else ("go", 1, state + 1))) for state in range(5)]
        searcher = Searcher("ab", 2, [*trees, ("go", 1, 0)])
        for wish in WISHES:
            result = verdict(searcher, ["ab"], wish)
            self.assertEqual((len(result.text), result.text[5:], how_wrong(result)), (7, "ab", "missed"))

    def test_the_wish_is_all_unless_told(self):
        self.assertEqual(verdict(ONE, ["ab"]).wish, "all")
        self.assertEqual(verdict(TWO, ["ab"]).wish, "all")
        plain = made("ab", "aa", "plain")
        self.assertIsInstance(verdict(plain, ["aa"]), Right)
        self.assertIsInstance(verdict(plain, ["aa"], "apart"), Wrong)

    def test_apart(self):
        # Behind a tell it slides past the word, so that it is right for "apart" alone.
        apart = Searcher.read("ab 2\nread 0 [a: read 1 [a: tell 0 go 2 0, b: go 2 0], b: go 1 0]")
        self.assertEqual([isinstance(verdict(apart, ["aa"], wish), Right) for wish in WISHES], [False, True, True])
        self.assertEqual(len(verdict(apart, ["aa"]).text), 3)
        # The letter behind may be slid over just if no word begins there.
        behind = Searcher.read("ab 2\nread 0 [a: read 1 [a: tell 0 read 2 [a: go 2 0, b: go 3 0], b: go 2 0], b: go 1 0]")
        self.assertIsInstance(verdict(behind, ["aa"], "apart"), Right)
        self.assertEqual(len(verdict(behind, ["aa", "ba"], "apart").text), 2)
        shut = made("ab", "aaa", "plain")
        self.assertEqual(len(verdict(shut, ["aaa"], "apart").text), 4)
        self.assertEqual(how_wrong(verdict(shut, ["aaa"], "apart")), "told")

    def test_rows_of_apart(self):
        slow = Searcher.read("ab 2\nread 0 [a: read 1 [a: tell 0 go 1 1, b: go 2 0], b: go 1 0]\ngo 1 0")
        result = verdict(slow, ["aa"], "apart")
        self.assertIsInstance(result, Right)
        self.assertEqual(result.rows, ((0, "...", 0), (1, "a..", 1)))

    def test_several_numbers(self):
        texts = {"read 0 [a: tell 0 tell 1 go 1 0, b: go 1 0]": ("told", "missed"),
                 "read 0 [a: tell 0 go 1 0, b: tell 1 go 1 0]": (None, None),
                 "read 0 [a: tell 0 tell 0 go 1 0, b: tell 1 go 1 0]": ("told", None),
                 "read 0 [a: tell 0 go 1 0, b: tell 2 go 1 0]": ("told", "told"),
                 "read 0 [a: tell 0 go 1 0, b: go 1 0]": ("missed", "missed")}
        for text, kinds in texts.items():
            for wish, kind in zip(("all", "first"), kinds):
                result = verdict(Searcher.read("ab 1\n" + text), ["a", "b"], wish)
                self.assertEqual(None if isinstance(result, Right) else how_wrong(result), kind, (text, wish))

    def test_texts_that_end_with_the_window(self):
        # Where the letter behind is not there, this one does not come to its tell.
        late = Searcher.read("ab 1\nread 0 [a: read 1 [a: tell 0 go 1 0, b: tell 0 go 1 0], b: go 1 0]")
        result = verdict(late, ["a"])
        self.assertEqual((result.text, how_wrong(result)), ("a", "missed"))
        early = Searcher.read("ab 1\nread 0 [a: tell 0 read 1 [a: go 1 0, b: go 2 0], b: read 1 [a: go 1 0, b: go 2 0]]")
        self.assertIsInstance(verdict(early, ["a"]), Right)
        # It tells a word that does not stand there just when the letter behind has been read.
        later = Searcher.read("ab 1\nread 0 [a: read 1 [a: tell 0 go 1 0, b: go 1 0], b: tell 0 go 1 0]")
        result = verdict(later, ["b"])
        self.assertEqual((result.text, how_wrong(result)), ("aa", "told"))
        blind = Searcher.read("ab 1\ntell 0 read 1 [a: go 1 0, b: go 1 0]")
        self.assertEqual(verdict(blind, ["a"]).text, "b")

    def test_what_is_passed_is_copied(self):
        words = ["ab"]
        result, wrong = verdict(ONE, words), verdict(TWO, words)
        words.append("ba")
        self.assertEqual((result.words, wrong.words), (("ab",), ("ab",)))
        self.assertEqual([type(part) for part in (result.rows, result.rows[0], result.words, wrong.words)], [tuple] * 4)
        rows = [[0, "...", 0], (0, "a..", 0)]
        right = Right(ONE, words[:1], "all", rows)
        rows.clear()
        self.assertEqual((right.rows, right.words), (((0, "...", 0), (0, "a..", 0)), ("ab",)))
        self.assertEqual(Wrong(ONE, ["ab"], "all", "ab").words, ("ab",))
        self.assertEqual(vars(verdict(TWO, ("ab",))), vars(verdict(TWO, ["ab"])))


class Rows(unittest.TestCase):
    """is_right of rows that somebody else wrote."""

    def variants(self, draws, searcher, rows):
        """The rows with one left out, one otherwise, one more, turned about, and twice."""
        rows = list(rows)
        yield rows[::-1]
        yield rows * 2
        for at, (state, known, shut) in enumerate(rows):
            yield rows[:at] + rows[at + 1:]
            place = draws.below(searcher.width)
            other = known[:place] + draws.one_of(searcher.letters + ".") + known[place + 1:]
            for row in ((state, known, shut + 1), (state, known, max(0, shut - 1)), (state, other, shut),
                        (draws.below(len(searcher.states)), known, shut)):
                yield rows[:at] + [row] + rows[at + 1:]
                yield rows + [row]

    def test_changed_rows(self):
        draws = Draws(82)
        found = {(wish, answer): 0 for wish in WISHES for answer in (True, False)}
        for searcher, words in drawn_cases(82, 80)[::3]:
            kept = {}
            for wish in WISHES:
                rows = rows_of(searcher, words, wish)
                for some in self.variants(draws, searcher, rows[:8] if len(rows) > 20 else rows):
                    answer = is_right(Right(searcher, words, wish, draws.one_of([list, tuple])(some)))
                    self.assertIs(answer, holds(searcher, words, wish, some, kept))
                    found[(wish, answer)] += 1
        self.assertGreater(min(found.values()), 100, found)

    def test_no_rows(self):
        for rows in ([], (), [(0, "a..", 0)], [(0, "...", 1)]):
            self.assertIs(is_right(Right(ONE, ["ab"], "all", rows)), False)
        self.assertIs(is_right(Right(ONE, ["ab"], "all", [(0, "...", 0), (0, "a..", 0)])), True)
        self.assertIs(is_right(Right(ONE, ["ab"], "all", [(0, "...", 0)])), False)

    def test_values_that_are_no_standings(self):
        for row in ((1, "...", 0), (-1, "...", 0), (0, "..", 0), (0, "....", 0), (0, "c..", 0), (0, "", 0),
                    (None, "...", 0), (0, None, 0), (0, "...", None), (True, "...", 0), (0, "...", False)):
            rows = [(0, "...", 0), (0, "a..", 0), row]
            self.assertIs(is_right(Right(ONE, ["ab"], "all", rows[2:])), False)
            if row != (0, "...", False):
                self.assertIs(is_right(Right(ONE, ["ab"], "all", rows)), False)

    def test_other_words_and_wishes(self):
        rows = [(0, "...", 0), (0, "a..", 0)]
        for words, wish, answer in ((["ab"], "apart", True), (["ab"], "first", True), (["aa"], "all", False),
                                    (["ab", "aa"], "all", False), (["ba"], "first", False)):
            self.assertIs(is_right(Right(ONE, words, wish, rows)), answer, (words, wish))
            self.assertIs(holds(ONE, words, wish, rows), answer)


class Texts(unittest.TestCase):
    """is_wrong and how_wrong of texts that somebody else wrote."""

    def test_short_texts(self):
        found = {(wish, kind): 0 for wish in WISHES for kind in (None, "told", "missed")}
        for searcher, words in drawn_cases(83, 60)[::3]:
            for text in texts_up_to(searcher.letters, 5 if len(searcher.letters) == 2 else 3):
                for wish in WISHES:
                    wrong = Wrong(searcher, words, wish, text)
                    kind = fault_over(searcher, words, wish, text)
                    self.assertEqual(how_wrong(wrong), kind)
                    self.assertIs(is_wrong(wrong), kind is not None)
                    found[(wish, kind)] += 1
        self.assertGreater(min(found.values()), 100, found)

    def test_not_just_least_ones(self):
        for text in ("aab", "aabaabbb", "bab" * 4000):
            self.assertIs(is_wrong(Wrong(TWO, ["ab"], "all", text)), True)
        self.assertIs(is_wrong(Wrong(TWO, ["ab"], "all", "ab")), False)


class Made(unittest.TestCase):

    def test_all_ways(self):
        draws = Draws(84)
        for letters, most in (("ab", 5), ("abc", 3)):
            for size in range(1, most + 1):
                for word in map("".join, itertools.product(letters, repeat=size)):
                    overlaps = any(word.startswith(word[at:]) for at in range(1, size))
                    for way in ("borders", "strict borders", "by letters", "plain", "last letter", "letter behind",
                                "bad letter", "good end", "both", "both and known", "all knowledge"):
                        searcher = made(letters, word, way)
                        for wish, is_good in (("all", True), ("first", True), ("apart", not overlaps)):
                            result = verdict(searcher, [word], wish)
                            self.assertIs(isinstance(result, Right), is_good, (word, way, wish))
                        if draws.below(30) == 0:
                            self.same(searcher.least(), searcher, [word])
                            self.same(told_twice(draws, searcher), searcher, [word])
                            self.same(reordered(searcher, letters[::-1]), searcher, [word])

    def test_other_forms(self):
        draws = Draws(85)
        for searcher, words in drawn_cases(85, 80)[::2]:
            self.same(searcher.least(), searcher, words)
            self.same(told_twice(draws, searcher), searcher, words)
            self.same(reordered(searcher, searcher.letters[::-1]), searcher, words)
            letters = "qxyz"[:len(searcher.letters)]
            names = dict(zip(searcher.letters, letters))
            self.same(renamed_letters(searcher, letters), searcher,
                      ["".join(names[sign] for sign in word) for word in words], words)

    def same(self, one, other, words, others=None):
        for wish in WISHES:
            first, second = verdict(one, words, wish), verdict(other, others or words, wish)
            self.assertEqual(first.__class__, second.__class__)
            if isinstance(first, Wrong):
                self.assertEqual(len(first.text), len(second.text))


class Refused(unittest.TestCase):

    def refused(self, error, fields, searcher, words, *wish):
        with self.assertRaises(error) as caught:
            verdict(searcher, words, *wish)
        self.assertIsInstance(caught.exception, SkipsError)
        self.assertEqual(vars(caught.exception), fields)

    def test_words(self):
        for words in any_values() + ["ab", 0, {"ab": 1}]:
            if not (isinstance(words, (list, tuple)) and words):
                self.refused(BadWords, {"place": 0}, ONE, words)
        for wrong in WRONG_WORDS:
            self.refused(BadWords, {"place": 0}, ONE, [wrong])
            self.refused(BadWords, {"place": 1}, ONE, ["ab", wrong], "none")
        for place, words in ((1, ["ab", "ab"]), (2, ["ab", "ba", "ab"]), (3, ["aa", "ab", "ba", "bb"]), (1, ["ab", "a"]),
                             (0, ["ac"]), (0, [])):
            self.refused(BadWords, {"place": place}, ONE, words)
            self.refused(BadWords, {"place": place}, ONE, tuple(words), None)

    def test_words_of_another_width(self):
        for words in (["a"], ["aba"], ["a", "b"], ["aaaaaaaa"], ("aba", "abb", "bbb")):
            for wish in ("all", None):
                self.refused(BadWords, {"place": 0}, ONE, words, wish)
        self.refused(BadWords, {"place": 3}, ONE, ["aaa", "aab", "aba", "abb"])

    def test_wishes(self):
        for wish in any_values() + ["All", "all ", 0, 1, ["all"], ("all",), ("all", "apart")]:
            self.refused(BadWish, {"wish": wish}, ONE, ["ab"], wish)
            self.refused(BadWish, {"wish": wish}, many_standings(1), ["abababab"], wish)

    def test_how_many_rows(self):
        begun = time.monotonic()
        fields = {"what": "standings", "many": 2001, "most": 2000}
        for wish in WISHES:
            self.refused(TooMany, fields, many_standings(1), ["abababab"], wish)
            result = verdict(many_standings(0), ["abababab"], wish)
            self.assertEqual((len(result.text), how_wrong(result)), (8, "missed"))
        self.assertLess(time.monotonic() - begun, 60)

    def test_as_many_rows_as_are_let(self):
        # It reads each window as a whole, and knows all of it but the last letter.
        begun = time.monotonic()
        searcher = Searcher("ab", 8, [complete("ab", [*range(8)], lambda read, state=state: (
            ("tell", 0, ("go", 1, state)) if read == "aaaaaabb" else ("go", 1, state))) for state in (1, 2, 3, 4, 0)])
        for wish in WISHES:
            result = verdict(searcher, ["aaaaaabb"], wish)
            self.assertTrue(isinstance(result, Right) and is_right(result))
            self.assertGreater(len(result.rows), 600)
            self.assertEqual(result.rows, rows_of(searcher, ["aaaaaabb"], wish))
        self.assertLess(time.monotonic() - begun, 60)

    def test_more_rows_than_standings(self):
        # Whether it tells hangs on a letter that is known no more behind the slide.
        trees = [complete("ab", [7, 0], lambda read, state=state: (
            ("tell", 0, ("go", 1, state)) if read[1] == "a" else ("go", 1, state))) for state in (1, 0)]
        searcher = Searcher("ab", 8, trees)
        self.assertEqual(len(standings(searcher)), 127 + 2 * 128)
        self.refused(TooMany, {"what": "standings", "many": 2001, "most": 2000}, searcher, ["abababab"], "apart")
        self.assertIsInstance(verdict(searcher, ["abababab"], "all"), Wrong)
        one = Searcher("ab", 8, [complete("ab", [7, 0], lambda read: (
            ("tell", 0, ("go", 1, 0)) if read[1] == "a" else ("go", 1, 0)))])
        self.assertIsInstance(verdict(one, ["abababab"], "apart"), Wrong)
        self.assertGreater(len(rows_of(one, ["abababab"], "apart")), 1024)


class Examples(unittest.TestCase):

    def test_of_the_document(self):
        right, wrong = verdict(ONE, ["ab"]), verdict(TWO, ["ab"])
        self.assertEqual(
            [isinstance(right, Right), is_right(right), right.rows, len(wrong.text), how_wrong(wrong)],
            [True, True, ((0, "...", 0), (0, "a..", 0)), 3, "missed"])
        self.assertIn(wrong.text, ("aab", "bab"))


if __name__ == "__main__":
    unittest.main()
