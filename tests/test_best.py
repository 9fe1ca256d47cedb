import itertools
import time
import unittest

from tests.plain import (
    Draws, any_values, changed, complete, made_ones, many_standings, parts_of, reordered, search, small_searcher,
    some_words, texts_up_to, walked_standings, with_part)
from tests.test_verdicts import can_stand
from tests.test_words import WRONG_LETTERS, WRONG_WORDS, plainly_wanted
from wordskips.best import best, room
from wordskips.errors import BadLetters, BadOrder, BadWords, SkipsError, TooMany
from wordskips.makers import made
from wordskips.often import often
from wordskips.searchers import Searcher
from wordskips.verdicts import Right, Wrong, verdict


def fitting(words, read, offset):
    """Whether some word fits at an offset what is read, a dict from places to letters."""
    return any(all(read.get(offset + at, letter) == letter for at, letter in enumerate(word)) for word in words)


def plain_best(letters, words, order, behind):
    """The states of best, written anew: lists of leaves (what is read in the tree, in order; tells; slide; state).

    A state is the letters that it remembers, those of the first places of the order.
    """
    width = len(words[0])
    met = [""]
    states = []
    for remembered in met:
        leaves = []
        for signs in itertools.product(letters, repeat=width + 1 - len(remembered)):
            read = dict(zip(order, remembered))
            path = []
            for place, letter in zip([*order[len(remembered):], width], signs):
                if place == width or not fitting(words, read, 0):
                    break
                read[place] = letter
                path.append((place, letter))
            tells = [number for number, word in enumerate(words)
                     if len(read) == width and all(read[place] == word[place] for place in range(width))]
            if behind:
                read[width] = signs[-1]
                path.append((width, signs[-1]))
            slide = [by for by in range(1, width + 2) if fitting(words, read, by)][0]
            after = ""
            for place in order[:width - 1]:
                if place + slide not in read:
                    break
                after += read[place + slide]
            leaves.append((tuple(path), tuple(tells), slide, after))
        leaves = sorted(set(leaves), key=lambda leaf: [letters.index(letter) for _, letter in leaf[0]])
        for _, _, _, after in leaves:
            if after not in met:
                met.append(after)
        states.append(leaves)
    return [[(*leaf[:3], met.index(leaf[3])) for leaf in leaves] for leaves in states]


def leaves_of(letters, tree, path=(), tells=()):
    """The leaves of a tree, in the order of the letters."""
    if tree[0] == "go":
        return [(path, tells, tree[1], tree[2])]
    if tree[0] == "tell":
        return leaves_of(letters, tree[2], path, (*tells, tree[1]))
    return [leaf for letter, inner in zip(letters, tree[2])
            for leaf in leaves_of(letters, inner, (*path, (tree[1], letter)), tells)]


def slid_farther(letters, tree, path):
    """The tree with a slide of one more behind these letters."""
    if tree[0] == "go":
        return ("go", tree[1] + 1, tree[2])
    if tree[0] == "tell":
        return ("tell", tree[1], slid_farther(letters, tree[2], path))
    trees = list(tree[2])
    at = letters.index(path[0])
    trees[at] = slid_farther(letters, trees[at], path[1:])
    return ("read", tree[1], tuple(trees))


def small_cases():
    """All words of two letters up to 3 long, alone and in pairs, in all orders."""
    for size in (1, 2, 3):
        words = ["".join(signs) for signs in itertools.product("ab", repeat=size)]
        for order in itertools.permutations(range(size)):
            for some in [*((word,) for word in words), *list(itertools.combinations(words, 2))[::3], tuple(words[1:4])]:
                for behind in (False, True):
                    yield "ab", list(some), order, behind


def drawn_cases(seed, many):
    draws = Draws(seed)
    for _ in range(many):
        letters = draws.one_of(["ab", "cab", "dbca"])
        width = 1 + draws.below({"ab": 6, "cab": 4, "dbca": 3}[letters])
        order = sorted(range(width), key=lambda place: draws.below(999))
        yield letters, some_words(draws, letters, width), order, draws.below(2) == 0


class Best(unittest.TestCase):

    def check(self, letters, words, order, behind):
        searcher = best(letters, words, order, behind)
        self.assertEqual((searcher.letters, searcher.width), (letters, len(words[0])))
        found = [leaves_of(letters, tree) for tree in searcher.states]
        self.assertEqual(found, plain_best(letters, words, order, behind), (words, order, behind))
        return searcher

    def test_all_small_ones(self):
        for letters, words, order, behind in small_cases():
            self.check(letters, words, order, behind)

    def test_drawn_ones(self):
        for letters, words, order, behind in drawn_cases(131, 250):
            self.check(letters, words, order, behind)

    def test_right_and_no_letter_is_read_too_often(self):
        for at, case in enumerate([*small_cases(), *drawn_cases(132, 120)]):
            letters, words, order, behind = case
            searcher = best(*case)
            result = verdict(searcher, words)
            self.assertIsInstance(result, Right, case)
            self.assertLessEqual(often(searcher).most, len(order) + behind)
            if at % 5 == 0:
                for text in texts_up_to(letters, 6 if letters == "ab" else 4):
                    self.assertEqual(search(searcher, text)[1], plainly_wanted(words, text, "all"))

    def test_a_slide_of_one_more_is_wrong(self):
        # But where room tells that what it does not remember would let it slide farther, or no turn comes to the leaf.
        found = {True: 0, False: 0}
        for letters, words, order, behind in [*list(small_cases())[::5], *drawn_cases(133, 60)]:
            searcher = best(letters, words, order, behind)
            roomy = [row[:2] for row in room(searcher, words)]
            self.assertFalse(roomy and order == sorted(order) and not behind)
            met = {(standing[0], "".join(letter for _, letter in turn[0])): turn[3]
                   for standing, turns_there in walked_standings(searcher).items() for turn in turns_there if turn[3]}
            for (state, path), slide in met.items():
                found[(state, path) in roomy] += 1
                if (state, path) not in roomy and slide <= searcher.width:
                    states = list(searcher.states)
                    states[state] = slid_farther(letters, states[state], path)
                    other = Searcher(letters, searcher.width, states)
                    self.assertIsInstance(verdict(other, words), Wrong, (words, order, behind, state, path))
        self.assertGreater(found[True], 10)
        self.assertGreater(found[False], 1000)

    def test_from_the_left_it_is_made_by_letters(self):
        for letters, most in (("ab", 6), ("abc", 4)):
            for size in range(1, most + 1):
                for word in map("".join, itertools.product(letters, repeat=size)):
                    self.assertEqual(best(letters, [word], list(range(size))).least(),
                                     made(letters, word, "by letters").least())

    def test_letters_in_another_order(self):
        for letters, words, order, behind in drawn_cases(134, 60):
            turned = letters[::-1]
            one, other = best(letters, words, order, behind), best(turned, words, order, behind)
            self.assertEqual(reordered(one, turned).least(), other.least())

    def test_behind(self):
        self.assertEqual(best("ab", ["aa"], [0, 1]), best("ab", ["aa"], [0, 1], False))
        self.assertEqual(
            best("ab", ["aa"], [0, 1], True).written(),
            "ab 2\nread 0 [a: read 1 [a: tell 0 read 2 [a: go 1 1, b: go 3 0], b: read 2 [a: go 2 1, b: go 3 0]], "
            "b: read 2 [a: go 1 0, b: go 3 0]]\n"
            "read 1 [a: tell 0 read 2 [a: go 1 1, b: go 3 0], b: read 2 [a: go 2 1, b: go 3 0]]")
        # No state remembers all places: of a window of one letter, none.
        self.assertEqual(best("ab", ["b"], [0], True).written(),
                         "ab 1\nread 0 [a: read 1 [a: go 2 0, b: go 1 0], b: tell 0 read 1 [a: go 2 0, b: go 1 0]]")

    def test_what_is_passed_is_not_changed(self):
        words, order = ["ab", "ba"], [1, 0]
        found = best("ab", words, order)
        self.assertEqual((words, order), (["ab", "ba"], [1, 0]))
        self.assertEqual(best("ab", ("ab", "ba"), (1, 0)), found)

    def test_as_long_as_can_be(self):
        begun = time.monotonic()
        for order in (range(8), range(7, -1, -1), (3, 7, 0, 5, 1, 6, 2, 4)):
            for words in (["abaababa"], ["aaaaaaaa", "aaaabaaa"], ["abcdabcd", "bbbbbbbb", "abacabad"]):
                letters = "abcd" if len(words) == 3 else "ab"
                searcher = best(letters, words, list(order))
                self.assertIsInstance(verdict(searcher, words), Right)
                self.assertLessEqual(len(searcher.states), 64)
        self.assertLess(time.monotonic() - begun, 60)


def plain_room(searcher, words):
    found = {}
    for standing, turns_there in walked_standings(searcher).items():
        for reads, _, known, slide, after in turns_there:
            if slide is not None:
                least = min(by for by in range(1, searcher.width + 2) if any(can_stand(known, word, by) for word in words))
                key = (standing[0], "".join(letter for _, letter in reads), slide)
                found[key] = min(least, found.get(key, least))
    return tuple(sorted((*key, least) for key, least in found.items() if key[2] < least))


class Room(unittest.TestCase):

    def test_against_standings_written_anew(self):
        draws = Draws(135)
        some = 0
        cases = []
        for _ in range(300):
            searcher = small_searcher(draws)
            cases.append((searcher, some_words(draws, searcher.letters, searcher.width)))
        for searcher, words in made_ones():
            cases.extend([(searcher, words), (changed(draws, searcher), words)])
        cases.extend([(best(*case), case[1]) for case in drawn_cases(136, 60) if len(case[1][0]) < 5])
        for searcher, words in cases:
            found = room(searcher, words)
            self.assertEqual(found, plain_room(searcher, words))
            self.assertIsInstance(found, tuple)
            some += bool(found)
        self.assertGreater(some, 150)

    def test_ways(self):
        self.assertEqual(room(made("ab", "aa", "by letters"), ["aa"]), ())
        self.assertEqual(room(made("ab", "ab", "all knowledge"), ["ab"]), ())
        # After bb nothing can stand at place 1, but a may stand behind; one that looks there could skip that, too.
        self.assertEqual(room(made("ab", "ab", "plain"), ["ab"]), ((0, "ab", 1, 2),))
        self.assertEqual(room(Searcher.read("ab 2\nread 2 [a: go 1 0, b: read 1 [a: go 2 0, b: go 1 0]]"), ["aa"]),
                         ((0, "ba", 2, 3), (0, "bb", 1, 3)))

    def test_what_is_known_from_windows_before(self):
        # Place 0 is not read again; what it is hangs on the window before, so that the least room counts.
        searcher = Searcher.read("ab 2\nread 1 [a: go 1 0, b: go 1 0]")
        self.assertEqual(room(searcher, ["ab"]), ((0, "b", 1, 2),))
        self.assertEqual(room(searcher, ["ba", "aa"]), ())
        wide = Searcher.read("ab 3\nread 2 [a: go 1 0, b: go 1 0]")
        self.assertEqual(room(wide, ["bba"]), ((0, "a", 1, 3),))
        # Place 0 is known as b in each window of the second state, so that aa cannot stand there; place 1 is free.
        two = Searcher.read("ab 2\nread 1 [a: go 1 0, b: go 1 1]\nread 1 [a: go 1 0, b: go 1 1]")
        self.assertEqual(room(two, ["aa"]), ((0, "b", 1, 2), (1, "b", 1, 2)))

    def test_several_words(self):
        plain = made("ab", "aab", "plain")
        self.assertEqual(room(plain, ["aab"]), plain_room(plain, ["aab"]))
        for words in (["aab", "bbb"], ["bab", "aaa", "abb"]):
            self.assertEqual(room(plain, words), plain_room(plain, words))


class Refused(unittest.TestCase):

    def refused(self, error, fields, call, *values):
        with self.assertRaises(error) as caught:
            call(*values)
        self.assertIsInstance(caught.exception, SkipsError)
        self.assertEqual(vars(caught.exception), fields)

    def test_letters_and_words(self):
        for letters in WRONG_LETTERS:
            self.refused(BadLetters, {"letters": letters}, best, letters, ["ab"], [0, 1])
        for wrong in WRONG_WORDS:
            self.refused(BadWords, {"place": 0}, best, "ab", [wrong], None)
            self.refused(BadWords, {"place": 1}, best, "ab", ["ab", wrong], [0, 1])
            self.refused(BadWords, {"place": 0}, room, made("ab", "ab", "plain"), [wrong])
        for words in any_values():
            if not (isinstance(words, (list, tuple)) and words):
                self.refused(BadWords, {"place": 0}, best, "ab", words, [0, 1])
                self.refused(BadWords, {"place": 0}, room, made("ab", "ab", "plain"), words)
        self.refused(BadWords, {"place": 3}, best, "ab", ["aa", "ab", "ba", "bb"], [0, 1])
        self.refused(BadLetters, {"letters": "a"}, best, "a", [], None)

    def test_words_of_another_width(self):
        for words in (["a"], ["aba"], ["aba", "bbb"]):
            self.refused(BadWords, {"place": 0}, room, made("ab", "ab", "plain"), words)

    def test_orders(self):
        values = any_values() + [
            [0], [1, 0, 2], [0, 0], [1, 1], [0, 2], [-1, 0], [False, True], [0, True], ["0", "1"], (0,), (0, 1, 1), "01",
            {0: 1, 1: 0}, [0, None], [[0], [1]], [0, 1.5], 0, 1, [10 ** 39, 0], [[0, 1]], ([], {})]
        for order in values:
            self.refused(BadOrder, {"order": order}, best, "ab", ["ab"], order)
            self.refused(BadOrder, {"order": order}, best, "ab", ["ab"], order, True)
        for order in ([], [1], [False]):
            self.refused(BadOrder, {"order": order}, best, "ab", ["a"], order)

    def test_how_many_standings(self):
        begun = time.monotonic()
        fields = {"what": "standings", "many": 2001, "most": 2000}
        self.refused(TooMany, fields, room, many_standings(1), ["abababab"])
        self.refused(BadWords, {"place": 0}, room, many_standings(1), ["ab"])
        # When the last place is read at first, nothing else is known: b may stand at place 5 of the word.
        self.assertEqual(room(many_standings(0), ["abababab"])[0], (41, "b", 1, 2))
        heavy = Searcher("abcd", 8, [complete("abcd", [4, 5, 6, 7, 8], ("go", 5, 0))])
        self.assertGreater(len(room(heavy, ["abcdabcd"])), 100)
        self.assertLess(time.monotonic() - begun, 60)


class Examples(unittest.TestCase):

    def test_of_the_document(self):
        self.assertEqual(best("ab", ["aa"], [0, 1]).written(),
                         "ab 2\nread 0 [a: read 1 [a: tell 0 go 1 1, b: go 2 0], b: go 1 0]\n"
                         "read 1 [a: tell 0 go 1 1, b: go 2 0]")
        self.assertEqual(room(made("ab", "aa", "plain"), ["aa"]), ((0, "ab", 1, 2),))


if __name__ == "__main__":
    unittest.main()
