import fractions
import itertools
import time
import unittest

from tests.plain import (
    Draws, any_values, cost_over, fraction, reordered, search, some_words, texts_up_to)
from tests.test_verdicts import can_stand
from tests.test_words import WRONG_LETTERS, WRONG_WORDS, plainly_wanted
from wordskips.best import best
from wordskips.chains import gains_and_heights
from wordskips.errors import BadLetters, BadPlace, BadWords, NoPartial, SkipsError, TooMany
from wordskips.knowledge import standings
from wordskips.makers import made
from wordskips.means import means
from wordskips.ratios import Ratio
from wordskips.searchers import Searcher
from wordskips.thrift import Thrift, is_thrift, moves, partials, thrift
from wordskips.verdicts import Right, verdict


def plain_moves(letters, words, partial, place):
    """What moves should be, written anew."""
    found = []
    for letter in letters:
        read = "".join(letter if at == place else sign for at, sign in enumerate(partial))
        if "." in read and any(can_stand(read, word, 0) for word in words):
            found.append((0, None, read))
            continue
        told = [number for number, word in enumerate(words) if word == read]
        slide = min(by for by in range(1, len(read) + 1) if any(can_stand(read, word, by) for word in words))
        found.append((slide, told[0] if told else None, (read + "." * slide)[slide:]))
    return tuple(found)


def plain_partials(letters, words):
    """A dict from the open partial words that come up to dicts from places to moves."""
    found, waiting = {}, ["." * len(words[0])]
    while waiting:
        partial = waiting.pop()
        if partial not in found:
            found[partial] = {place: plain_moves(letters, words, partial, place)
                              for place, sign in enumerate(partial) if sign == "."}
            waiting.extend([after for rows in found[partial].values() for _, _, after in rows])
    return found


def searcher_of(letters, table, choices):
    """The searcher that reads by choices; each partial word at which a turn begins is a state."""
    width = len(next(iter(table)))
    met, trees = ["." * width], []

    def tree(partial):
        branches = []
        for slide, number, after in table[partial][choices[partial]]:
            if slide == 0:
                branches.append(tree(after))
                continue
            if after not in met:
                met.append(after)
            go = ("go", slide, met.index(after))
            branches.append(go if number is None else ("tell", number, go))
        return ("read", choices[partial], tuple(branches))
    for partial in met:
        trees.append(tree(partial))
    return Searcher(letters, width, trees)


def holds(letters, words, told):
    """What is_thrift should be."""
    table = plain_partials(letters, words)
    if set(told.heights) != set(table) or set(told.choices) != set(table):
        return False
    heights = {partial: fraction(height) for partial, height in told.heights.items()}
    mean = fraction(told.mean)
    if heights["." * len(words[0])] != 0:
        return False
    for partial, places in table.items():
        if told.choices[partial] not in places:
            return False
        for place, rows in places.items():
            cost = 1 + sum(heights[after] - mean * slide for slide, _, after in rows) / fractions.Fraction(len(letters))
            if heights[partial] > cost or place == told.choices[partial] and heights[partial] != cost:
                return False
    return True


def cases(seed, many):
    """Words with at most 31 partial words."""
    draws = Draws(seed)
    found = []
    for letters, most in (("ab", 3), ("cab", 2)):
        for size in range(1, most + 1):
            words = ["".join(signs) for signs in itertools.product(letters, repeat=size)]
            found.extend([(letters, [word]) for word in words])
            found.extend([(letters, list(some)) for some in list(itertools.combinations(words, 2))[::3]])
            found.extend([(letters, list(some)) for some in list(itertools.permutations(words, 3))[::29]])
    while many:
        letters = draws.one_of(["ab", "ba", "bca", "dbca"])
        words = some_words(draws, letters, 2 + draws.below(4))
        if len(plain_partials(letters, words)) <= 31:
            found.append((letters, words))
            many -= 1
    return [(letters, words) for letters, words in found if len(plain_partials(letters, words)) <= 31]


class Partials(unittest.TestCase):

    def test_against_a_walk(self):
        for letters, words in cases(141, 60):
            table = plain_partials(letters, words)
            found = partials(letters, words)
            self.assertIsInstance(found, tuple)
            self.assertEqual(list(found), sorted(table))
            for partial, places in table.items():
                for place, rows in places.items():
                    self.assertEqual(moves(letters, tuple(words), partial, place), rows)

    def test_by_hand(self):
        self.assertEqual(partials("ab", ["a"]), (".",))
        self.assertEqual(moves("ab", ["a"], ".", 0), ((1, 0, "."), (1, None, ".")))
        self.assertEqual(moves("ba", ["a"], ".", 0), ((1, None, "."), (1, 0, ".")))
        self.assertEqual(partials("ab", ["ab"]), ("..", ".b", "a."))
        self.assertEqual(moves("ab", ["ab"], "..", 1), ((1, None, "a."), (0, None, ".b")))
        self.assertEqual(moves("ab", ["ab", "ba"], "a.", 1), ((1, None, "a."), (1, 0, "b.")))
        self.assertEqual(moves("abc", ["ab", "ba"], "..", 0), ((0, None, "a."), (0, None, "b."), (1, None, "..")))
        # One word of five letters: all but the word itself, with any of its places known.
        self.assertEqual(len(partials("ab", ["aaaaa"])), 31)


class Cheapest(unittest.TestCase):

    def check(self, letters, words):
        told = thrift(letters, words)
        self.assertIsInstance(told, Thrift)
        self.assertTrue(holds(letters, words, told), (letters, words))
        self.assertIs(is_thrift(letters, words, told), True)
        self.assertEqual({type(place) for place in told.choices.values()}, {int})
        self.assertEqual((told.searcher.letters, told.searcher.width), (letters, len(words[0])))
        self.assertEqual(told.searcher.least(), searcher_of(letters, plain_partials(letters, words), told.choices).least())
        if len(standings(told.searcher)) <= 60:
            self.assertEqual(means(told.searcher).mean, told.mean)
        return told

    def test_equations_and_searchers(self):
        for at, (letters, words) in enumerate(cases(142, 60)):
            told = self.check(letters, words)
            result = verdict(told.searcher, words)
            self.assertIsInstance(result, Right)
            if at % 6 == 0:
                for text in texts_up_to(letters, 6 if len(letters) == 2 else 4):
                    self.assertEqual(search(told.searcher, text)[1], plainly_wanted(words, text, "all"))

    def test_against_all_ways_to_choose(self):
        reached = 0
        for letters, words in cases(143, 25):
            table = plain_partials(letters, words)
            ways = 1
            for places in table.values():
                ways *= len(places)
            if ways <= 200:
                least = min(self.mean_of(letters, table, dict(zip(table, choice)))
                            for choice in itertools.product(*table.values()))
                self.assertEqual(fraction(thrift(letters, words).mean), least)
                reached += 1
        self.assertGreater(reached, 60)

    def mean_of(self, letters, table, choices):
        return fraction(means(searcher_of(letters, table, choices)).mean)

    def test_against_drawn_ways_to_choose(self):
        draws = Draws(144)
        for letters, words in cases(144, 25)[-25:]:
            table = plain_partials(letters, words)
            least = fraction(thrift(letters, words).mean)
            for _ in range(5):
                choices = {partial: draws.one_of(sorted(places)) for partial, places in table.items()}
                searcher = searcher_of(letters, table, choices)
                if len(standings(searcher)) <= 60:
                    self.assertLessEqual(least, fraction(means(searcher).mean))

    def test_no_right_searcher_is_cheaper(self):
        for letters, words in (("ab", ["ab"]), ("ab", ["aab"]), ("ab", ["abab"]), ("abc", ["ca"]), ("ab", ["aba", "bbb"])):
            least = fraction(thrift(letters, words).mean)
            ones = [best(letters, words, order, behind) for order in itertools.permutations(range(len(words[0])))
                    for behind in (False, True)]
            if len(words) == 1:
                ones.extend([made(letters, words[0], way) for way in (
                    "borders", "by letters", "letter behind", "last letter", "both", "both and known", "all knowledge")])
            for searcher in ones:
                self.assertIsInstance(verdict(searcher, words), Right)
                if len(standings(searcher)) <= 60:
                    self.assertLessEqual(least, fraction(means(searcher).mean))

    def test_long_texts(self):
        # Over all texts of ten letters, no right one from the list reads less than the mean, but for the ends.
        told = thrift("ab", ["abb"])
        cost = sum(cost_over(told.searcher, text) for text in map("".join, itertools.product("ab", repeat=10)))
        self.assertLess(abs(fractions.Fraction(cost, 1024) - fraction(told.mean) * 10), 3)

    def test_letters_in_another_order(self):
        for letters, words in cases(145, 15)[::4]:
            told, other = thrift(letters, words), thrift(letters[::-1], words)
            self.assertEqual((told.mean, set(told.heights)), (other.mean, set(other.heights)))
            self.assertEqual(means(reordered(told.searcher, letters[::-1])).mean, told.mean)

    def test_as_many_as_are_let(self):
        begun = time.monotonic()
        for letters, words in (("ab", ["aaaaa"]), ("ab", ["abaab"]), ("dcba", ["abcda"]), ("ab", ["aabab"])):
            self.assertEqual(len(partials(letters, words)), 31)
            self.check(letters, words)
        self.assertLess(time.monotonic() - begun, 60)

    def test_equal_calls_and_copies(self):
        told = thrift("ab", ["aba"])
        heights, choices = dict(told.heights), dict(told.choices)
        told.heights.clear()
        told.choices.clear()
        again = thrift("ab", ("aba",))
        self.assertEqual((again.heights, again.choices), (heights, choices))
        self.assertEqual((again.mean, again.searcher), (told.mean, told.searcher))
        self.assertEqual(set(vars(again)), {"mean", "heights", "choices", "searcher"})
        kept = Thrift(again.mean, heights, choices, None)
        heights.clear()
        choices.clear()
        self.assertIs(is_thrift("ab", ["aba"], kept), True)


class IsThrift(unittest.TestCase):

    def changes(self, draws, told):
        partial = draws.one_of(sorted(told.heights))
        heights, choices = told.heights, told.choices
        less = [{key: table[key] for key in table if key != partial} for table in (heights, choices)]
        for mean in (told.mean + Ratio(1, 9), told.mean - Ratio(1, 9), -told.mean):
            yield Thrift(mean, heights, choices, told.searcher)
        for table in (less[0], {}, {key: heights[key] + 1 for key in heights}, {**heights, partial: heights[partial] + 1},
                      {**heights, partial: heights[partial] - Ratio(1, 5)}, {**heights, "x": Ratio(0)}, dict(heights)):
            yield Thrift(told.mean, table, choices, told.searcher)
        tables = [{**choices, partial: place} for place in range(-1, len(partial) + 1)]
        for table in (less[1], {}, {**choices, "x": 0}, *tables):
            yield Thrift(told.mean, heights, table, told.searcher)
        yield Thrift(told.mean, heights, choices, made("ab", "a", "plain"))
        yield Thrift(told.mean, heights, choices, None)

    def test_one_thing_otherwise(self):
        draws = Draws(146)
        found = {True: 0, False: 0}
        for letters, words in cases(146, 25):
            for some in self.changes(draws, thrift(letters, words)):
                answer = is_thrift(letters, words, some)
                self.assertIs(answer, holds(letters, words, some))
                found[answer] += 1
        self.assertGreater(min(found.values()), 200, found)

    def test_values_of_other_kinds(self):
        told = vars(thrift("ab", ["a"]))
        for name, values in (("mean", [1, None, "1"]), ("heights", [None, [], {".": 0}, {".": None}]),
                             ("choices", [None, [], {".": None}, {".": False}, {".": "0"}, {".": [0]}])):
            for value in values:
                self.assertIs(is_thrift("ab", ["a"], Thrift(**{**told, name: value})), False, (name, value))
        wide = thrift("ab", ["aa"])
        for partial in ("..", ".a", "a."):
            for value in (0, None, "0", 1):
                some = Thrift(wide.mean, {**wide.heights, partial: value}, wide.choices, None)
                self.assertIs(is_thrift("ab", ["aa"], some), False)
            for value in (None, True, False, 2, -1, "0"):
                some = Thrift(wide.mean, wide.heights, {**wide.choices, partial: value}, None)
                self.assertIs(is_thrift("ab", ["aa"], some), False)

    def test_choices_that_are_not_the_cheapest(self):
        # Place 0 first costs a read a letter; all equations hold, but place 1 is cheaper.
        heights = {"..": Ratio(0), ".a": Ratio(-1), "a.": Ratio(-1)}
        told = Thrift(Ratio(1), heights, {"..": 0, ".a": 0, "a.": 1}, None)
        self.assertIs(is_thrift("ab", ["aa"], told), False)
        self.assertIs(holds("ab", ["aa"], told), False)
        draws = Draws(147)
        found = {True: 0, False: 0}
        for letters, words in cases(147, 25):
            table = plain_partials(letters, words)
            choices = {partial: draws.one_of(sorted(places)) for partial, places in table.items()}
            numbers = {partial: number for number, partial in enumerate(table)}
            rows = [table[partial][choices[partial]] for partial in table]
            gains, heights = gains_and_heights([[(1, 1, slide, numbers[after]) for slide, _, after in row] for row in rows])
            self.assertEqual(len({str(gain) for gain in gains}), 1)
            least = heights[numbers["." * len(words[0])]]
            told = Thrift(gains[0], {partial: heights[numbers[partial]] - least for partial in table}, choices, None)
            answer = is_thrift(letters, words, told)
            self.assertIs(answer, holds(letters, words, told))
            self.assertTrue(told.mean == thrift(letters, words).mean or not answer)
            found[answer] += 1
        self.assertGreater(min(found.values()), 10, found)

    def test_of_other_words(self):
        self.assertIs(is_thrift("ab", ["bb"], thrift("ab", ["aa"])), False)
        self.assertIs(is_thrift("ab", ["ab", "ba"], thrift("ab", ["ab"])), False)


class Refused(unittest.TestCase):

    def refused(self, error, fields, call, *values):
        with self.assertRaises(error) as caught:
            call(*values)
        self.assertIsInstance(caught.exception, SkipsError)
        self.assertEqual(vars(caught.exception), fields)

    def calls(self):
        told = thrift("ab", ["a"])
        return [(partials, ()), (moves, (None, None)), (thrift, ()), (is_thrift, (told,))]

    def test_letters_and_words(self):
        for call, rest in self.calls():
            for letters in WRONG_LETTERS:
                self.refused(BadLetters, {"letters": letters}, call, letters, None, *rest)
            for wrong in WRONG_WORDS:
                self.refused(BadWords, {"place": 1}, call, "ab", ["ab", wrong], *rest)
            for words in any_values():
                if not (isinstance(words, (list, tuple)) and words):
                    self.refused(BadWords, {"place": 0}, call, "ab", words, *rest)
            self.refused(BadWords, {"place": 3}, call, "ab", ["aa", "ab", "ba", "bb"], *rest)

    def test_how_many_partial_words(self):
        begun = time.monotonic()
        for letters, words in (("ab", ["aaaaaa"]), ("ab", ["aaaa", "bbbb", "abab"]), ("abcd", ["abcdabcd"]),
                               ("abcd", ["abcdabcd", "bbbbbbbb", "cacacaca"]), ("abc", ["aabca", "bacab"])):
            many = len(plain_partials(letters, words))
            self.assertGreater(many, 31)
            for call, rest in self.calls():
                self.refused(TooMany, {"what": "partial words", "many": many, "most": 31}, call, letters, words, *rest)
        self.assertEqual(len(plain_partials("abcd", ["abcdabcd"])), 255)
        self.assertLess(time.monotonic() - begun, 60)

    def test_values_that_are_no_partials(self):
        for value in any_values() + ["aa", "ab", "b.", "..", "...", ".", "a..", ["a."], 0, ("..",), ".a "]:
            if value not in ("..", ".b", "a."):
                for place in (0, None):
                    self.refused(NoPartial, {"partial": value}, moves, "ab", ["ab"], value, place)

    def test_values_that_are_no_places(self):
        for value in any_values() + [2, 3, "0", [0], (1,), 10 ** 40]:
            for partial in ("..", "a."):
                self.refused(BadPlace, {"number": value}, moves, "ab", ["ab"], partial, value)
        self.refused(BadPlace, {"number": 0}, moves, "ab", ["ab"], "a.", 0)
        self.refused(BadPlace, {"number": 1}, moves, "ab", ["ab"], ".b", 1)


class Examples(unittest.TestCase):

    def test_of_the_document(self):
        told = thrift("ab", ["aa"])
        self.assertEqual(
            [str(told.mean), partials("ab", ["aa"]), told.choices[".."], moves("ab", ["aa"], ".a", 0)],
            ["5/6", ("..", ".a", "a."), 1, ((1, 0, "a."), (1, None, "a."))])
        self.assertEqual({partial: str(height) for partial, height in told.heights.items()},
                         {"..": "0", ".a": "-1/3", "a.": "-1/2"})


if __name__ == "__main__":
    unittest.main()
