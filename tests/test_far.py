import math
import time
import unittest

from tests.plain import (Draws, any_values, drawn_rules, drawn_searcher, drawn_tree, pairs_at_windows, places_of,
                         search, small_rules, written_out)
from tests.test_makers import WAYS
from tests.test_runs import HAND_MADE
from wordskips.errors import BadPlace, OtherLetters, SkipsError
from wordskips.makers import made
from wordskips.runs import trace
from wordskips.searchers import Searcher
from wordskips.weaves import Weave, far

MANY = 10 ** 30


class Searches(unittest.TestCase):

    def check(self, searcher, rules, root):
        """Whether far finds what a search letter by letter, and trace, find in the text written out."""
        text = written_out(rules, root)
        windows, told = pairs_at_windows(searcher, text)
        traced = trace(searcher, text)
        self.assertEqual((traced.windows, traced.told), (windows, told))
        result = far(searcher, Weave(searcher.letters, rules, root))
        self.assertEqual((result.cost, result.windows, result.told), (traced.cost, len(windows), len(told)))
        places = range(len(told))
        for k in list(places[:30]) + list(places[30::17]) + list(places[-5:]):
            self.assertEqual(result.told_at(k), told[k])
        return len(told)

    def test_drawn_searchers_and_rules(self):
        draws = Draws(62)
        told = 0
        for _ in range(600):
            searcher = drawn_searcher(draws)
            told += self.check(searcher, small_rules(draws, searcher.letters), "A") > 0
        self.assertGreater(told, 200)

    def test_searchers_made_in_all_ways(self):
        draws = Draws(63)
        for _ in range(30):
            letters = draws.one_of(["ab", "cab"])
            rules = small_rules(draws, letters)
            text = written_out(rules, "A")
            size = 1 + draws.below(min(8, len(text)))
            first = draws.below(len(text) - size + 1)
            for way in WAYS:
                self.assertGreater(self.check(made(letters, text[first:first + size], way), rules, "A"), 0)

    def test_searchers_that_read_again_or_behind(self):
        draws = Draws(64)
        for searcher in HAND_MADE:
            for _ in range(60):
                self.check(searcher, small_rules(draws, "ab"), "A")

    def test_texts_about_as_long_as_the_window(self):
        draws = Draws(65)
        for _ in range(150):
            searcher = drawn_searcher(draws)
            for size in range(1, searcher.width + 3):
                text = draws.text(searcher.letters, size)
                cut = draws.below(size)
                whole = {"X": [(text, 1)]}
                parts = {"X": [(letter, 1) for letter in text[:7]] + [(text[7:], 1)][:size // 8]}
                within = {"X": [("Y", 1), (text[cut:], 1)], "Y": [(text[:cut] or text, 1)]}
                for rules in (whole, parts, within):
                    self.check(searcher, rules, "X")

    def test_the_end_of_the_text(self):
        searcher = Searcher.read("ab 2\nread 0 [a: tell 1 read 2 [a: tell 0 go 1 0, b: go 3 0], b: tell 2 tell 2 go 1 0]")
        weave = Weave("ab", {"X": [("b", MANY)]}, "X")
        result = far(searcher, weave)
        self.assertEqual((result.cost, result.windows, result.told), (MANY - 1, MANY - 1, 2 * MANY - 2))
        self.assertEqual([result.told_at(2 * MANY - 3), result.told_at(2 * MANY - 4), result.told_at(2 * MANY - 5)],
                         [(MANY - 2, 2), (MANY - 2, 2), (MANY - 3, 2)])
        result = far(searcher, Weave("ab", {"X": [("b", MANY), ("ab", 1)]}, "X"))
        self.assertEqual((result.cost, result.windows, result.told), (MANY + 1, MANY + 1, 2 * MANY + 1))
        self.assertEqual([result.told_at(2 * MANY), result.told_at(2 * MANY - 1)], [(MANY, 1), (MANY - 1, 2)])
        result = far(searcher, Weave("ab", {"X": [("b", MANY), ("ab", 1), ("a", 1)]}, "X"))
        self.assertEqual((result.cost, result.windows, result.told), (MANY + 3, MANY + 2, 2 * MANY + 4))
        self.assertEqual([result.told_at(2 * MANY + at) for at in range(4)],
                         [(MANY, 1), (MANY, 0), (MANY + 1, 2), (MANY + 1, 2)])


class LongTexts(unittest.TestCase):
    """Texts of 10 ** 30 letters and more, against what is known of them, or of shorter ones that are alike."""

    def test_one_rule(self):
        for word, part, many, first, step in (("aba", "ab", MANY - 1, 0, 2), ("aa", "a", MANY - 1, 0, 1),
                                              ("bba", "abb", MANY - 1, 1, 3), ("abab", "abab", 2 * MANY - 1, 0, 2)):
            for way in WAYS:
                weave = Weave("ab", {"X": [(part, MANY)]}, "X")
                result = far(made("ab", word, way), weave)
                self.assertEqual(result.told, many)
                for k in (0, 1, 10, 10 ** 15 + 3, many // 2, many - 2, many - 1):
                    self.assertEqual(result.told_at(k), (first + step * k, 0))

    def test_a_head_and_a_tail(self):
        rules = {"X": [("ccab", 1), ("ab", MANY), ("c", 1), ("ba", MANY), ("abcc", 1), ("abab", 1)]}
        weave = Weave("abc", rules, "X")
        behind = 4 + 2 * MANY
        places = [(2, MANY), (behind + 2, MANY - 1), (weave.size - 4, 1)]
        for way in WAYS:
            result = far(made("abc", "aba", way), weave)
            told = 0
            for first, many in places:
                for k in (0, 1, 5, many // 3, many - 2, many - 1):
                    if 0 <= k < many:
                        self.assertEqual(result.told_at(told + k), (first + 2 * k, 0), way)
                told += many
            self.assertEqual(result.told, told)

    def test_rules_within_one_another(self):
        names = [chr(65 + at // 26) + chr(65 + at % 26) for at in range(30)]
        rules = {name: [("c", 1), (inner, MANY - at), ("ab", 1)]
                 for at, (name, inner) in enumerate(zip(names, names[1:]))}
        rules[names[29]] = [("ab", 1)]
        told = 1
        for at in reversed(range(29)):
            told = told * (MANY - at) + 1
        weave = Weave("abc", rules, names[0])
        for way in WAYS:
            result = far(made("abc", "ab", way), weave)
            self.assertEqual(result.told, told)
            self.assertEqual(result.told_at(0), (29, 0))
            self.assertEqual(result.told_at(told - 1), (weave.size - 2, 0))
            before = -1
            for k in sorted(told * part // 977 for part in range(1, 977, 61)):
                place, number = result.told_at(k)
                self.assertEqual((weave.part(place, 2), number), ("ab", 0))
                self.assertGreater(place, before)
                before = place

    def test_the_same_in_small_and_in_large(self):
        """The cost, the windows and the told pairs grow evenly with each whole round of copies."""
        draws = Draws(66)
        for _ in range(80):
            searcher = drawn_searcher(draws)
            # There are at most 6 states and 9 places of the window ahead of a copy.
            rounds = math.lcm(*range(1, 55))
            head, part, tail = [draws.text(searcher.letters, 1 + draws.below(6)) for _ in range(3)]

            def result(count):
                rules = {"X": [(head, 1), ("Y", count), (tail, 1)], "Y": [(part, 1)]}
                return far(searcher, Weave(searcher.letters, rules, "X"))

            ahead, many = 140 + draws.below(50), MANY // 7 // rounds
            one, other, last = result(ahead), result(ahead + rounds), result(ahead + many * rounds)
            for name in ("cost", "windows", "told"):
                small, middle, large = [getattr(told, name) for told in (one, other, last)]
                self.assertEqual(large - small, (middle - small) * many)
            half = len(head) + ahead * len(part) // 2
            for k in range(one.told):
                place, number = one.told_at(k)
                if place < half:
                    self.assertEqual(last.told_at(k), (place, number))
                else:
                    shifted = last.told_at(k + last.told - one.told)
                    self.assertEqual(shifted, (place + many * rounds * len(part), number))

    def test_told_pairs_far_away(self):
        """Letter by letter from a told pair on, the next one comes where told_at tells it."""
        draws = Draws(67)
        checked = 0
        for _ in range(150):
            letters = draws.one_of(["ab", "bca"])
            rules = drawn_rules(draws, letters, [1, 2, 3, MANY, MANY // 3])
            weave = Weave(letters, rules, "A")
            size = 1 + draws.below(4)
            size = min(size, weave.size)
            word = weave.part((weave.size - size) * draws.below(100) // 99, size)
            result = far(made(letters, word, draws.one_of(WAYS)), weave)
            self.assertGreater(result.told, 0)
            for k in {0, result.told // 2, max(0, result.told - 2)}:
                place, number = result.told_at(k)
                self.assertEqual((weave.part(place, len(word)), number), (word, 0))
                near = weave.part(place, min(300, weave.size - place))
                for ahead, at in enumerate(places_of(word, near)):
                    self.assertEqual(result.told_at(k + ahead), (place + at, 0))
                    checked += 1
        self.assertGreater(checked, 1000)

    def test_few_steps(self):
        """Forty rules of eight parts each, states that come around only after long: it ends soon."""
        draws = Draws(68)
        names = [chr(65 + at // 26) + chr(65 + at % 26) for at in range(40)]
        rules = {}
        for at, name in enumerate(names):
            inner = names[at + 1:at + 5]
            rules[name] = [(draws.one_of(inner) if inner and draws.below(5) < 3 else draws.text("abcd", 60),
                            draws.one_of([1, 7, MANY, MANY - 13])) for _ in range(8)]
        weave = Weave("abcd", rules, names[0])
        around = [("read", 8, tuple(("go", 1, (state + 1) % 64) for _ in "abcd")) for state in range(64)]
        around[5] = ("tell", 1, around[5])
        trees = [drawn_tree(draws, "abcd", 8, 64, 4) for _ in range(64)]
        begun = time.monotonic()
        for searcher in (Searcher("abcd", 8, around), Searcher("abcd", 8, trees)):
            result = far(searcher, weave)
            self.assertGreater(result.windows, MANY)
        result = far(Searcher("abcd", 8, around), weave)
        self.assertEqual((result.windows, result.cost), (weave.size - 7, weave.size - 8))
        self.assertEqual(result.told, (result.windows - 6) // 64 + 1)
        for part in range(1, 400):
            k = result.told * part // 400
            self.assertEqual(result.told_at(k), (5 + 64 * k, 1))
        self.assertLess(time.monotonic() - begun, 60)

    def test_equal_calls(self):
        rules = {"X": [("ab", MANY), ("Y", 3)], "Y": [("bba", MANY // 2)]}
        searcher = made("ab", "ba", "both")
        one, other = far(searcher, Weave("ab", rules, "X")), far(searcher, Weave("ab", rules, "X"))
        for k in (5, one.told - 1, 0, one.told // 2, 5):
            self.assertEqual(one.told_at(k), other.told_at(k))
            self.assertEqual((one.cost, one.windows, one.told), (other.cost, other.windows, other.told))


class Wrong(unittest.TestCase):

    def refused(self, error, fields, call):
        with self.assertRaises(error) as caught:
            call()
        self.assertIsInstance(caught.exception, SkipsError)
        self.assertEqual({name: getattr(caught.exception, name) for name in fields}, fields)

    def test_told_at(self):
        for rules in ({"X": [("ab", 3), ("b", 1)]}, {"X": [("Y", MANY)], "Y": [("aab", MANY)]}):
            weave = Weave("ab", rules, "X")
            for word in ("ab", "bbb"):
                result = far(made("ab", word, "plain"), weave)
                for k in any_values() + [result.told, result.told + 1, -result.told - 1, "0", (0,)]:
                    if k != 10 ** 39 or result.told <= k:
                        self.refused(BadPlace, {"number": k}, lambda: result.told_at(k))
            self.assertEqual(result.told, 0)
            self.refused(BadPlace, {"number": 0}, lambda: result.told_at(0))

    def test_the_last_turn_tells_the_last_pairs(self):
        result = far(Searcher.read("ab 1\ntell 2 tell 0 go 2 0"), Weave("ab", {"X": [("a", 1), ("b", MANY)]}, "X"))
        self.assertEqual(result.told, MANY + 2)
        self.assertEqual([result.told_at(MANY + at) for at in (-1, 0, 1)], [(MANY - 2, 0), (MANY, 2), (MANY, 0)])
        self.refused(BadPlace, {"number": MANY + 2}, lambda: result.told_at(MANY + 2))

    def test_other_letters(self):
        for letters in ("ba", "ac", "abc", "cab"):
            searcher = made(letters, letters, "plain")
            for rules in ({"X": [("ab", 3)]}, {"X": [("Y", MANY)], "Y": [("aab", MANY)]}):
                self.refused(OtherLetters, {}, lambda: far(searcher, Weave("ab", rules, "X")))


class Examples(unittest.TestCase):

    def test_of_the_document(self):
        weave = Weave("ab", {"X": [("ab", MANY)], "ROOT": [("X", 1), ("b", 2)]}, "X")
        long = far(made("ab", "aba", "borders"), weave)
        self.assertEqual([long.cost == 2 * 10 ** 30 - 1, long.told == 10 ** 30 - 1, long.told_at(7), weave.part(3, 4)],
                         [True, True, (14, 0), "baba"])
        self.assertEqual(search(made("ab", "aba", "borders"), "ab" * 9)[1][7], (14, 0))


if __name__ == "__main__":
    unittest.main()
