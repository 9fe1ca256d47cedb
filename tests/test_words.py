import itertools
import unittest

from tests.plain import Draws, any_values, places_of, texts_up_to
from wordskips.errors import BadLetters, BadText, BadWish, BadWords
from wordskips.words import check_words, fits, slid, wanted

WRONG_LETTERS = any_values() + [
    "a", "aa", "aba", "abcde", "abcdd", "Ab", "a1", "a b", "a.", "ab\n", "a\u00df", "\u0430\u0431", "`a", "{a",
    0, 1, 2, 26, ["a", "b"], ("a", "b"), {"a": 1, "b": 2}, ["ab"],
]
# As the first one of the words for "ab".
WRONG_WORDS = any_values() + ["c", "abc", "aB", "a b", " a", "a.", "aaaaaaaaa", "ababababa", 0, 1, ["a", "b"], ["a"]]


class CheckWords(unittest.TestCase):

    def refused(self, error, field, value, letters, words):
        for call in (lambda: check_words(letters, words), lambda: wanted(letters, words, "ab"),
                     lambda: wanted(letters, words, None, None)):
            with self.assertRaises(error) as caught:
                call()
            self.assertEqual(getattr(caught.exception, field), value)

    def test_right_ones(self):
        for letters in ("ab", "ba", "az", "zyx", "qwer", "dcba"):
            for words in (list(letters)[:3], tuple(letters[:2]), [letters], (letters[::-1] * 2,), [letters[0] * 8],
                          [letters, letters[::-1], letters[1] * len(letters)]):
                self.assertIsNone(check_words(letters, words))

    def test_wrong_letters(self):
        for letters in WRONG_LETTERS:
            self.refused(BadLetters, "letters", letters, letters, ["ab"])

    def test_letters_come_ahead_of_words(self):
        for words in ([], None, [None], ["abc"]):
            self.refused(BadLetters, "letters", "aa", "aa", words)

    def test_values_that_are_no_words(self):
        for words in any_values() + ["ab", "a", 0, 1, 2, {"ab": 1}, {0: "ab"}]:
            if not (isinstance(words, (list, tuple)) and words):
                self.refused(BadWords, "place", 0, "ab", words)

    def test_each_wrong_word_at_each_place(self):
        for wrong in WRONG_WORDS:
            self.refused(BadWords, "place", 0, "ab", [wrong])
            self.refused(BadWords, "place", 0, "ab", (wrong, "ab"))
            self.refused(BadWords, "place", 0, "ab", [wrong, wrong, wrong, wrong])
            self.refused(BadWords, "place", 1, "ab", ["ab", wrong, "ab"])
            self.refused(BadWords, "place", 1, "ab", ("ab", wrong, "bb", "ba"))
            self.refused(BadWords, "place", 2, "ab", ["ab", "ba", wrong])
            self.refused(BadWords, "place", 3, "ab", ["ab", "ba", "aa", wrong])

    def test_lengths_repeats_and_too_many(self):
        for place, words in [
            (1, ["ab", "a"]), (1, ["ab", "aba"]), (1, ["a", "ab", "b"]), (2, ["ab", "ba", "b"]), (0, [""]),
            (0, ["", "a"]), (1, ["a", ""]), (1, ["ab", "ab"]), (2, ["ab", "ba", "ab"]), (2, ["ab", "ba", "ba"]),
            (1, ["ab", "ab", "ab"]), (3, ["aa", "ab", "ba", "bb"]), (3, ["aa", "ab", "ba", "aa"]),
            (3, ["aa", "ab", "ba", "bb", "aa"]), (1, ["aa", "aa", "ba", "bb"]), (0, ["aaaaaaaaa", "aa"]),
        ]:
            self.refused(BadWords, "place", place, "ab", words)
            self.refused(BadWords, "place", place, "ab", tuple(words))

    def test_bounds_of_the_length(self):
        self.assertIsNone(check_words("ab", ["a" * 8, "b" * 8]))
        self.assertIsNone(check_words("ab", ["a", "b"]))
        self.refused(BadWords, "place", 0, "ab", ["a" * 9])

    def test_what_is_passed_is_not_changed(self):
        words = ["ab", "ba"]
        check_words("ab", words)
        wanted("ab", words, "abba", "apart")
        self.assertEqual(words, ["ab", "ba"])


def plainly_wanted(words, text, wish):
    found = sorted((place, number) for number, word in enumerate(words) for place in places_of(word, text))
    if wish == "first":
        return found[:1]
    if wish == "all":
        return found
    apart = []
    while found:
        apart.append(found[0])
        end = found[0][0] + len(words[0])
        found = [pair for pair in found if pair[0] >= end]
    return apart


class Wanted(unittest.TestCase):

    def check(self, letters, words, text):
        for wish in ("all", "apart", "first"):
            self.assertEqual(wanted(letters, words, text, wish), plainly_wanted(words, text, wish))
        self.assertEqual(wanted(letters, words, text), plainly_wanted(words, text, "all"))

    def test_all_short_texts(self):
        for size in (1, 2, 3):
            words = ["".join(signs) for signs in itertools.product("ab", repeat=size)]
            sets = [list(some) for many in (1, 2, 3) for some in itertools.permutations(words[:5], many)]
            for some in sets:
                for text in texts_up_to("ab", 6 if size < 3 else 5):
                    self.check("ab", some, text)

    def test_longer_texts(self):
        draws = Draws(3)
        for letters in ("ab", "cba", "dazq"):
            for size in (1, 2, 4, 8):
                text = draws.text(letters, 60)
                near = text[7:7 + size], text[9:9 + size], text[20:20 + size]
                for words in ([near[0]], list(dict.fromkeys(near[:2])), tuple(dict.fromkeys(near))):
                    self.check(letters, words, text + near[0] + near[0] + near[1])

    def test_words_that_overlap_and_stand_nowhere(self):
        self.assertEqual(wanted("ab", ["aa"], "aaaaa"), [(0, 0), (1, 0), (2, 0), (3, 0)])
        self.assertEqual(wanted("ab", ["aa"], "aaaaa", "apart"), [(0, 0), (2, 0)])
        self.assertEqual(wanted("ab", ["aa"], "aaaa", "apart"), [(0, 0), (2, 0)])
        self.assertEqual(wanted("ab", ["aab", "aba", "baa"], "aabaab", "apart"), [(0, 0), (3, 0)])
        self.assertEqual(wanted("ab", ["aba", "baa"], "aabaab", "apart"), [(1, 0)])
        for wish in ("all", "apart", "first"):
            self.assertEqual(wanted("ab", ["bb"], "abababa", wish), [])
            self.assertEqual(wanted("ab", ["bb"], "", wish), [])
            self.assertEqual(wanted("ab", ["bb"], "b", wish), [])

    def test_kinds_of_the_answer(self):
        first = wanted("ab", ["a"], "aa")
        self.assertIs(type(first), list)
        self.assertTrue(all(type(pair) is tuple for pair in first))
        first.append("x")
        self.assertEqual(wanted("ab", ["a"], "aa"), [(0, 0), (1, 0)])

    def test_wrong_texts(self):
        for place, text in [(0, "c"), (1, "ac"), (0, "Ab"), (2, "ab c"), (3, "aba\n"), (0, " ab"), (1, "a.c"),
                            (4, "abba."), (0, ["a", "b"]), (0, ("ab",)), (0, 0), (0, 1), (0, {"a": 1})]:
            for wish in ("all", "first", "none", None):
                with self.assertRaises(BadText) as caught:
                    wanted("ab", ["ab"], text, wish)
                self.assertEqual(caught.exception.place, place)
        for text in any_values():
            if not isinstance(text, str):
                with self.assertRaises(BadText) as caught:
                    wanted("ab", ["ab"], text)
                self.assertEqual(caught.exception.place, 0)

    def test_wrong_wishes(self):
        for wish in any_values() + ["All", "all ", "any", "firs", "a", 0, 1, ["all"], ("all",), ("all", "first")]:
            with self.assertRaises(BadWish) as caught:
                wanted("ab", ["ab"], "ab", wish)
            self.assertEqual(caught.exception.wish, wish)

    def test_two_faults_at_once(self):
        with self.assertRaises(BadLetters):
            wanted("a", [], 1, 1)
        with self.assertRaises(BadWords):
            wanted("ab", [], 1, 1)
        with self.assertRaises(BadText):
            wanted("ab", ["a"], "abx", 1)


class Known(unittest.TestCase):

    def test_fits_everywhere(self):
        for known in texts_up_to("ab.", 4):
            for word in ("a", "b", "ab", "ba", "aba", "abb"):
                for offset in range(7):
                    clash = any(known[place] not in (".", word[place - offset])
                                for place in range(offset, min(len(known), offset + len(word))))
                    self.assertIs(fits(known, word, offset), not clash)

    def test_fits_far_away(self):
        self.assertIs(fits("bb", "aa", 10 ** 39), True)
        self.assertIs(fits("abcdabcd.", "abcdabcd", 0), True)
        self.assertIs(fits("abcdabcd.", "abcdabcd", 4), True)
        self.assertIs(fits("abcdabcda", "abcdabcd", 8), True)
        self.assertIs(fits("abcdabcdb", "abcdabcd", 8), False)

    def test_slid(self):
        for known in texts_up_to("ab.", 4):
            for by in range(1, 8):
                expected = "".join(known[place + by] if place + by < len(known) else "." for place in range(len(known)))
                self.assertEqual(slid(known, by), expected)
        self.assertEqual(slid("ab.a", 10 ** 39), "....")


class Examples(unittest.TestCase):

    def test_of_the_document(self):
        self.assertEqual(
            [wanted("ab", ["aba"], "ababa"), wanted("ab", ["aba"], "ababa", "apart"),
             wanted("ab", ["ab", "ba"], "aabab", "first")],
            [[(0, 0), (2, 0)], [(0, 0)], [(1, 0)]])
        self.assertEqual(
            [fits("ab..", "aba", 0), fits("ab..", "aba", 1), fits("ab..", "aba", 2), slid("ab.a", 2), slid("ab.a", 9)],
            [True, False, True, ".a..", "...."])


if __name__ == "__main__":
    unittest.main()
