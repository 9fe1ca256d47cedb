import functools
import itertools
import unittest

from tests.plain import Draws, any_values, parts_of, places_of, search, texts_up_to
from tests.test_words import WRONG_LETTERS, WRONG_WORDS
from wordskips.errors import BadLetters, BadWay, BadWords
from wordskips.makers import made
from wordskips.searchers import Searcher

LEFT = ["borders", "strict borders", "by letters"]
LEFT_ONE = ["plain", "last letter", "letter behind"]
RIGHT_ONE = ["bad letter", "good end", "both"]
WAYS = LEFT + LEFT_ONE + RIGHT_ONE + ["both and known", "all knowledge"]

SHORT = [(letters, "".join(signs)) for letters, most in (("ab", 5), ("cab", 3)) for size in range(1, most + 1)
         for signs in itertools.product(letters, repeat=size)]
LONG = [("ab", word) for word in (
    "aaaaaa", "abaaba", "ababab", "aabaab", "abbbbb", "bbbbba", "aaaaaaa", "abababa", "aabaaba", "abaaaba", "aaaaaaaa",
    "aaaaaaab", "baaaaaaa", "abababab", "abaababa", "aabaaaba", "abbabaab", "ababaaba")]
LONG += [("bca", word) for word in (
    "abcabc", "abacab", "abcabca", "abacaba", "abcabcab", "abcbabca", "cabcacba", "aabcaabc")]
LONG += [("dabc", word) for word in (
    "dabcda", "abcdab", "abcdabc", "abcdabcd", "dcbaabcd", "abacadab", "aaaabaaa", "ccccdddd")]


def border(word, size):
    """The length of the longest beginning, shorter than size, that is also an end of word[:size]."""
    if size == 0:
        return -1
    return [less for less in range(size) if word[:less] == word[size - less:size]][-1]


def first_step(word, size, is_good):
    step = border(word, size)
    while step != -1 and not is_good(step):
        step = border(word, step)
    return step


def last_place(word, letter, below):
    return max([place for place in range(below) if word[place] == letter] + [-1])


def bad_letter(word, unlike, letter):
    return unlike - last_place(word, letter, unlike)


def good_end(word, unlike):
    size = len(word)
    slides = [by for by in range(1, size + 1)
              if all(word[place - by] == word[place] for place in range(max(unlike + 1, by), size))
              and (by > unlike or word[unlike - by] != word[unlike])]
    return slides[0]


def left_turn(way, word, state, window):
    size = len(word)
    for place in range(state, size):
        letter = window[place]
        if letter == word[place]:
            continue
        reads = list(range(state, place + 1))
        if way == "borders":
            back = border(word, place)
            return reads, False, place - back, max(0, back)
        if way == "strict borders":
            back = first_step(word, place, lambda step: word[step] != word[place])
            return reads, False, place - back, max(0, back)
        back = first_step(word, place, lambda step: word[step] == letter)
        return reads, False, place - back, back + 1
    return list(range(state, size)), True, size - border(word, size), border(word, size)


def left_one_turn(way, word, window):
    size = len(word)
    unlike = [place for place in range(size) if window[place] != word[place]]
    reads = list(range(unlike[0] + 1 if unlike else size))
    if way == "plain":
        return reads, not unlike, 1, 0
    if way == "last letter":
        return reads + [size - 1], not unlike, size - 1 - last_place(word, window[size - 1], size - 1), 0
    return reads + [size], not unlike, size - last_place(word, window[size], size), 0


def right_turn(way, word, state, window):
    size = len(word)
    period = size - border(word, size)
    least = border(word, size) if state == 1 else 0
    reads = []
    for place in range(size - 1, least - 1, -1):
        reads.append(place)
        if window[place] != word[place]:
            bad, good = bad_letter(word, place, window[place]), good_end(word, place)
            return reads, False, {"bad letter": bad, "good end": good}.get(way, max(bad, good)), 0
    if way == "bad letter":
        return reads, True, 1, 0
    return reads, True, period, 1 if way == "both and known" and period < size else 0


def knowing_turn(word, known, window):
    """The reads, whether it tells, the slide, and what is known then, of a state of "all knowledge"."""
    size = len(word)
    now = list(known)
    reads = []
    like = True
    for place in range(size - 1, -1, -1):
        if known[place] == "." and like:
            reads.append(place)
            now[place] = window[place]
            like = window[place] == word[place]
    for by in range(1, size + 1):
        if all(now[place + by] in (".", word[place]) for place in range(size - by)):
            return reads, like, by, "".join(now[by:]) + "." * by
    raise AssertionError("the word fits behind the window")


@functools.lru_cache(None)
def knowns(letters, word):
    """The states of "all knowledge", in the order in which they are met."""
    met = ["." * len(word)]
    for known in met:
        free = [place for place in range(len(word) - 1, -1, -1) if known[place] == "."]
        like = "".join(word[place] for place in free)
        read = [like] + [like[:at] + letter for at in range(len(free)) for letter in letters if letter != like[at]]
        # Ahead within a tree is ahead in the order of the letters.
        for signs in sorted(read, key=lambda signs: [letters.index(sign) for sign in signs]):
            window = list(word)
            for place, sign in zip(free, signs):
                window[place] = sign
            after = knowing_turn(word, known, window)[3]
            if after not in met:
                met.append(after)
    return tuple(met)


def turn(way, word, state, window, met):
    if way in LEFT:
        return left_turn(way, word, state, window)
    if way in LEFT_ONE:
        return left_one_turn(way, word, window)
    if way == "all knowledge":
        reads, tells, slide, after = knowing_turn(word, met[state], window)
        return reads, tells, slide, met.index(after)
    return right_turn(way, word, state, window)


def how_many_states(way, word, met):
    if way in LEFT:
        return len(word)
    if way == "all knowledge":
        return len(met)
    return 2 if way == "both and known" and border(word, len(word)) > 0 else 1


def walked(searcher, tree, window):
    """The places that are read, the slide and the state; the number that is told and how many reads were before it."""
    reads, told = [], []
    while tree[0] != "go":
        if tree[0] == "tell":
            told.append((tree[1], len(reads)))
            tree = tree[2]
        else:
            reads.append(tree[1])
            tree = tree[2][searcher.letters.index(window[tree[1]])]
    return reads, told, tree[1], tree[2]


class Ways(unittest.TestCase):

    def check_turns(self, letters, word, way, windows):
        searcher = made(letters, word, way)
        met = knowns(letters, word) if way == "all knowledge" else None
        self.assertEqual((searcher.letters, searcher.width), (letters, len(word)))
        self.assertEqual(len(searcher.states), how_many_states(way, word, met))
        for state, tree in enumerate(searcher.states):
            for window in windows:
                if met:
                    # Where something is known, no other letter can stand.
                    window = "".join(sign if known == "." else known for sign, known in zip(window, met[state] + "."))
                reads, told, slide, after = walked(searcher, tree, window)
                expected = turn(way, word, state, window, met)
                self.assertEqual((reads, bool(told), slide, after), expected, (letters, word, way, state, window))
                # It tells as soon as all are known to be like, also ahead of a read that slides.
                ahead = len(reads) - (way in ("last letter", "letter behind"))
                self.assertEqual(told, [(0, ahead)] if expected[1] else [])

    def test_each_turn_of_short_words(self):
        for letters, word in SHORT:
            windows = ["".join(signs) for signs in itertools.product(letters, repeat=len(word) + 1)]
            for way in WAYS:
                self.check_turns(letters, word, way, windows)

    def test_each_turn_of_long_words(self):
        draws = Draws(21)
        for letters, word in LONG:
            size = len(word)
            windows = [word[:at] + letter + draws.text(letters, size)[at:]
                       for at in range(size + 1) for letter in letters]
            windows += [draws.text(letters, at) + letter + word[at + 1:] + last
                        for at in range(size) for letter in letters for last in letters]
            windows += [word + letter for letter in letters]
            for way in WAYS:
                self.check_turns(letters, word, way, windows)

    def test_each_state_is_met_and_has_no_other_parts(self):
        for letters, word in SHORT[:40] + LONG:
            size = len(word)
            for way in WAYS:
                searcher = made(letters, word, way)
                for state, tree in enumerate(searcher.states):
                    reads = [part for part in parts_of(tree) if part[0] == "read"]
                    self.assertEqual(len([part for part in parts_of(tree) if part[0] == "tell"]), 1)
                    first = size - state if way in LEFT else size
                    if way in ("last letter", "letter behind"):
                        first += 1 + size * (len(letters) - 1)
                    if way == "both and known" and state == 1:
                        first -= border(word, size)
                    if way == "all knowledge":
                        first = knowns(letters, word)[state].count(".")
                    self.assertEqual(len(reads), first)

    def test_it_tells_just_the_places_in_short_texts(self):
        for letters, word in SHORT:
            for way in WAYS:
                searcher = made(letters, word, way)
                for text in texts_up_to(letters, 7 if letters == "ab" else 5):
                    told = search(searcher, text)[1]
                    self.assertEqual(told, [(place, 0) for place in places_of(word, text)], (word, way, text))

    def test_it_tells_just_the_places_in_longer_texts(self):
        draws = Draws(22)
        for letters, word in LONG + SHORT[-10:]:
            texts = [word * 4, word + word[border(word, len(word)):] * 3, draws.text(letters, 80)]
            for _ in range(6):
                text = ""
                while len(text) < 120:
                    text += word[draws.below(len(word)):len(word) - draws.below(3)]
                    text += draws.text(letters, draws.below(3))
                texts.append(text)
            for way in WAYS:
                searcher = made(letters, word, way)
                for text in texts:
                    self.assertEqual(search(searcher, text)[1], [(place, 0) for place in places_of(word, text)])

    def test_words_of_each_length_up_to_eight(self):
        for size in range(1, 9):
            for way in WAYS:
                searcher = made("abcd", "abcdabcd"[:size], way)
                self.assertIsInstance(searcher, Searcher)
                self.assertEqual(searcher.width, size)

    def test_numbers_of_the_states_are_as_they_are_met(self):
        for letters, word in SHORT + LONG:
            searcher = made(letters, word, "all knowledge")
            self.assertTrue(searcher.least() == searcher)
            self.assertTrue(made(letters, word, "both and known").least().states[0][0] == "read")

    def test_most_states_of_all_knowledge(self):
        # Words of 8 letters have 20 such states at most, so TooMany does not come up.
        self.assertEqual(len(made("abcd", "ababaaac", "all knowledge").states), 20)

    def test_equal_calls(self):
        for way in WAYS:
            one, other = made("ab", "abaab", way), made("ab", "abaab", way)
            self.assertTrue(one == other)
            self.assertEqual(one.written(), other.written())


class Wrong(unittest.TestCase):

    def refused(self, error, field, value, letters, word, way):
        with self.assertRaises(error) as caught:
            made(letters, word, way)
        self.assertEqual(getattr(caught.exception, field), value)

    def test_letters(self):
        for letters in WRONG_LETTERS:
            self.refused(BadLetters, "letters", letters, letters, "ab", "plain")

    def test_words(self):
        for word in WRONG_WORDS:
            for way in WAYS:
                self.refused(BadWords, "place", 0, "ab", word, way)

    def test_ways(self):
        for way in any_values() + ["Borders", "borders ", "strict", "strict borders.", "letters", "by letter", "known",
                                   "all", 0, 1, ["plain"], ("plain",), {"plain": 1}]:
            self.refused(BadWay, "way", way, "ab", "ab", way)

    def test_the_order(self):
        self.refused(BadLetters, "letters", "a", "a", "", "none")
        self.refused(BadLetters, "letters", None, None, None, None)
        self.refused(BadWords, "place", 0, "ab", "abc", "none")
        self.refused(BadWords, "place", 0, "ab", ["ab"], None)
        self.refused(BadWay, "way", "none", "ab", "ab", "none")


class Examples(unittest.TestCase):

    def test_of_the_document(self):
        self.assertEqual(made("ab", "aba", "borders").written().split("\n"), [
            "ab 3",
            "read 0 [a: read 1 [a: go 1 0, b: read 2 [a: tell 0 go 2 1, b: go 2 0]], b: go 1 0]",
            "read 1 [a: go 1 0, b: read 2 [a: tell 0 go 2 1, b: go 2 0]]",
            "read 2 [a: tell 0 go 2 1, b: go 2 0]"])
        first = ("read", 0, (("tell", 0, ("go", 2, 0)), ("go", 2, 0)))
        self.assertEqual(
            [made("ab", "aba", way).states[0] for way in ("letter behind", "both")][1],
            ("read", 2, (("read", 1, (("go", 2, 0), first)), ("go", 1, 0))))

    def test_by_hand(self):
        leaves = "[a: go 1 0, b: go 2 0]"
        self.assertEqual(
            made("ab", "ab", "letter behind").written(),
            "ab 2\nread 0 [a: read 1 [a: read 2 [a: go 2 0, b: go 1 0], b: tell 0 read 2 [a: go 2 0, b: go 1 0]], "
            "b: read 2 [a: go 2 0, b: go 1 0]]")
        self.assertEqual(
            made("ab", "ab", "last letter").written(),
            f"ab 2\nread 0 [a: read 1 [a: read 1 {leaves}, b: tell 0 read 1 {leaves}], b: read 1 {leaves}]")
        self.assertEqual(
            made("ab", "aa", "both and known").written(),
            "ab 2\nread 1 [a: read 0 [a: tell 0 go 1 1, b: go 1 0], b: go 2 0]\nread 1 [a: tell 0 go 1 1, b: go 2 0]")
        self.assertEqual(
            made("ab", "ab", "all knowledge").written(),
            "ab 2\nread 1 [a: go 1 1, b: read 0 [a: tell 0 go 2 0, b: go 2 0]]\nread 1 [a: go 1 1, b: tell 0 go 2 0]")
        self.assertEqual(
            made("ab", "aa", "strict borders").written(),
            "ab 2\nread 0 [a: read 1 [a: tell 0 go 1 1, b: go 2 0], b: go 1 0]\nread 1 [a: tell 0 go 1 1, b: go 2 0]")


if __name__ == "__main__":
    unittest.main()
