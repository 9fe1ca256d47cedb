import unittest

from tests.plain import Draws, any_values, drawn_searcher, pairs_at_windows, places_of, texts_up_to
from tests.test_makers import LONG, SHORT, WAYS
from wordskips.errors import BadText, SkipsError, TooMany
from wordskips.makers import made
from wordskips.runs import trace
from wordskips.searchers import Searcher

AGAIN = Searcher.read("ab 2\nread 1 [a: read 1 [a: read 0 [a: go 1 0, b: go 3 1], b: go 1 0], b: go 2 1]\n"
                      "read 1 [a: read 1 [a: go 2 0, b: go 1 1], b: read 1 [a: go 1 0, b: read 0 [a: go 1 0, b: go 3 1]]]")
BEHIND = Searcher.read("ab 2\nread 0 [a: tell 1 read 2 [a: tell 0 go 1 0, b: go 3 0], b: tell 2 tell 2 go 1 0]")
MANY = Searcher.read("ab 1\ntell 2 tell 0 read 0 [a: tell 1 tell 1 go 2 0, b: tell 0 go 1 0]")
HAND_MADE = [AGAIN, BEHIND, MANY]


class Searches(unittest.TestCase):

    def check(self, searcher, text):
        windows, told = pairs_at_windows(searcher, text)
        result = trace(searcher, text)
        self.assertEqual(result.windows, windows)
        self.assertEqual(result.told, told)
        self.assertEqual(result.cost, sum(len(reads) for _, _, reads in windows))
        return result

    def test_short_texts(self):
        for searcher in HAND_MADE:
            for text in texts_up_to("ab", 9):
                self.check(searcher, text)

    def test_drawn_searchers(self):
        draws = Draws(31)
        for _ in range(400):
            searcher = drawn_searcher(draws)
            for _ in range(8):
                self.check(searcher, draws.text(searcher.letters, draws.below(60)))

    def test_texts_shorter_than_the_window(self):
        draws = Draws(32)
        for _ in range(60):
            searcher = drawn_searcher(draws)
            for size in range(searcher.width):
                result = trace(searcher, draws.text(searcher.letters, size))
                self.assertEqual((result.windows, result.told, result.cost), ((), (), 0))
            result = trace(searcher, draws.text(searcher.letters, searcher.width))
            self.assertEqual([window[:2] for window in result.windows], [(0, 0)])

    def test_the_letter_behind_is_not_there(self):
        result = trace(BEHIND, "ba")
        self.assertEqual(result.windows, ((0, 0, ((0, "b"),)),))
        self.assertEqual(result.told, ((0, 2), (0, 2)))
        result = trace(BEHIND, "ab")
        self.assertEqual(result.windows, ((0, 0, ((0, "a"),)),))
        self.assertEqual((result.told, result.cost), (((0, 1),), 1))
        result = trace(BEHIND, "aba")
        self.assertEqual(result.windows, ((0, 0, ((0, "a"), (2, "a"))), (1, 0, ((0, "b"),))))
        self.assertEqual((result.told, result.cost), (((0, 1), (0, 0), (1, 2), (1, 2)), 3))
        at_once = Searcher.read("ab 3\nread 3 [a: tell 0 go 1 0, b: go 4 0]")
        self.assertEqual(trace(at_once, "aaa").windows, ((0, 0, ()),))
        self.assertEqual((trace(at_once, "aaa").told, trace(at_once, "aaa").cost), ((), 0))
        self.assertEqual(trace(at_once, "aaaa").windows, ((0, 0, ((3, "a"),)), (1, 0, ())))

    def test_a_place_that_is_read_again_costs_again(self):
        self.assertEqual(trace(AGAIN, "aa").windows, ((0, 0, ((1, "a"), (1, "a"), (0, "a"))),))
        self.assertEqual(trace(AGAIN, "aa").cost, 3)
        self.assertEqual(trace(AGAIN, "aaa").cost, 6)

    def test_several_numbers(self):
        self.assertEqual(trace(MANY, "ba").told, ((0, 2), (0, 0), (0, 0), (1, 2), (1, 0), (1, 1), (1, 1)))

    def test_kinds_of_values(self):
        for searcher, text in ((BEHIND, "abaab"), (BEHIND, "b"), (made("ab", "ab", "plain"), "aab")):
            result = trace(searcher, text)
            self.assertIsInstance(result.windows, tuple)
            self.assertIsInstance(result.told, tuple)
            for window in result.windows:
                self.assertEqual([type(part) for part in window], [int, int, tuple])
                self.assertTrue(all(isinstance(pair, tuple) for pair in window[2]))
            self.assertTrue(all(isinstance(pair, tuple) for pair in result.told))

    def test_equal_calls(self):
        one, other = trace(AGAIN, "ababba"), trace(AGAIN, "ababba")
        self.assertEqual((one.windows, one.told, one.cost), (other.windows, other.told, other.cost))

    def test_five_thousand_letters(self):
        draws = Draws(33)
        for searcher in HAND_MADE + [made("ab", "abaab", way) for way in WAYS]:
            self.check(searcher, draws.text("ab", 5000))
        reading = Searcher("ab", 1, [("read", 0, (("go", 1, 0), ("go", 1, 0)))])
        self.assertEqual(trace(reading, "ab" * 2500).cost, 5000)
        self.assertEqual(len(trace(reading, "ab" * 2500).windows), 5000)


class OtherModules(unittest.TestCase):
    """What was promised of searchers and of those that are made, as trace shows it."""

    def test_the_least_one_is_searched_alike(self):
        draws = Draws(34)
        for _ in range(300):
            searcher = drawn_searcher(draws)
            least = searcher.least()
            self.assertLessEqual(len(least.states), len(searcher.states))
            for _ in range(5):
                text = draws.text(searcher.letters, draws.below(80))
                one, other = trace(searcher, text), trace(least, text)
                self.assertEqual((one.told, one.cost), (other.told, other.cost))
                self.assertEqual([(place, reads) for place, _, reads in one.windows],
                                 [(place, reads) for place, _, reads in other.windows])

    def test_the_ways_tell_just_the_places(self):
        draws = Draws(35)
        for letters, word in SHORT[::2] + LONG:
            texts = [draws.text(letters, 60), word * 6, word + draws.text(letters, 3) + word[1:] * 3]
            for way in WAYS:
                searcher = made(letters, word, way)
                for text in texts:
                    told = tuple((place, 0) for place in places_of(word, text))
                    self.assertEqual(trace(searcher, text).told, told)

    def test_all_knowledge_reads_no_letter_twice(self):
        draws = Draws(36)
        for letters, word in SHORT + LONG:
            searcher = made(letters, word, "all knowledge")
            for text in (draws.text(letters, 90), word * 9, (word + word[:3]) * 5, letters[0] * 50):
                places = [place + at for place, _, reads in trace(searcher, text).windows for at, _ in reads]
                self.assertEqual(len(places), len(set(places)))


class Wrong(unittest.TestCase):

    def refused(self, error, fields, text, searcher=AGAIN):
        with self.assertRaises(error) as caught:
            trace(searcher, text)
        self.assertIsInstance(caught.exception, SkipsError)
        self.assertEqual({name: getattr(caught.exception, name) for name in fields}, fields)

    def test_values_that_are_no_strings(self):
        for text in any_values() + [0, 1, ["a", "b"], ("ab",), {"ab": "ab"}]:
            if not isinstance(text, str):
                self.refused(BadText, {"place": 0}, text)

    def test_other_signs(self):
        for wrong in "c.AB \n-?0\u00e4\u0430`{":
            for before in ("", "a", "abba" * 9):
                for behind in ("", "b", wrong, "?" + wrong, "ab" * 9):
                    self.refused(BadText, {"place": len(before)}, before + wrong + behind)
        self.refused(BadText, {"place": 2}, "zxa", Searcher("zx", 2, [("go", 1, 0)]))

    def test_how_many_letters(self):
        for size in (5001, 5002, 20000):
            self.refused(TooMany, {"what": "letters", "many": size, "most": 5000}, "ab" * (size // 2) + "b" * (size % 2))

    def test_the_order(self):
        self.refused(BadText, {"place": 5000}, "a" * 5000 + "c")
        self.refused(BadText, {"place": 6000}, "a" * 6000 + "?b")
        self.refused(BadText, {"place": 0}, "?" * 5001)


class Examples(unittest.TestCase):

    def test_of_the_document(self):
        told = trace(made("ab", "aba", "borders"), "ababa")
        self.assertEqual([told.told, told.cost, told.windows[1]],
                         [((0, 0), (2, 0)), 5, (2, 1, ((1, "b"), (2, "a")))])


if __name__ == "__main__":
    unittest.main()
