import copy
import unittest

from tests.plain import Draws, any_values, small_rules, written_out
from tests.test_words import WRONG_LETTERS
from wordskips.errors import BadLetters, BadPlace, BadRule, NoRule, Ring, SkipsError, TooMany
from wordskips.makers import made
from wordskips.weaves import Weave, far

MANY = 10 ** 30


class Texts(unittest.TestCase):

    def check(self, letters, rules, root):
        text = written_out(rules, root)
        weave = Weave(letters, rules, root)
        self.assertEqual((weave.letters, weave.size), (letters, len(text)))
        return weave, text

    def test_drawn_rules(self):
        draws = Draws(61)
        for _ in range(300):
            letters = draws.one_of(["ab", "ba", "cab", "zyxw"])
            rules = small_rules(draws, letters)
            for root in rules:
                weave, text = self.check(letters, rules, root)
                for _ in range(5):
                    first = draws.below(len(text))
                    self.assertEqual(weave.letter(first), text[first])
                    size = draws.below(min(2000, len(text) - first) + 1)
                    self.assertEqual(weave.part(first, size), text[first:first + size])
                self.assertEqual(weave.part(0, min(2000, len(text))), text[:2000])
                self.assertEqual(weave.part(len(text), 0), "")

    def test_each_letter_and_each_part(self):
        rules = {"X": [("ab", 2), ("Y", 3), ("b", 1), ("Y", 1)], "Y": (["abb", 1], ("Z", 2)), "Z": [("a", 3)]}
        weave, text = self.check("ab", rules, "X")
        self.assertEqual([weave.letter(place) for place in range(len(text))], list(text))
        for first in range(len(text) + 1):
            for size in range(len(text) - first + 1):
                self.assertEqual(weave.part(first, size), text[first:first + size])

    def test_bounds_that_are_taken(self):
        long = "ab" * 30
        names = [chr(65 + at // 26) + chr(65 + at % 26) * 7 for at in range(40)]
        rules = {name: [(long, 1)] * 8 for name in names}
        self.check("ab", rules, names[7])
        weave = Weave("ab", {"X": [(long, MANY), ("Q", 1)], "Q": ((("a"), MANY),)}, "X")
        self.assertEqual(weave.size, 61 * MANY)
        self.assertEqual(weave.part(60 * MANY - 2, 5), "abaaa")
        self.assertEqual(weave.letter(61 * MANY - 1), "a")
        self.assertEqual(weave.part(30 * MANY, 2000), "ab" * 1000)

    def test_forty_rules_within_one_another(self):
        names = [chr(65 + at // 26) + chr(65 + at % 26) for at in range(40)]
        rules = {name: [("a", 1), (inner, MANY), ("b", 1)] for name, inner in zip(names, names[1:])}
        rules[names[39]] = [("c", 1)]
        sizes = {names[39]: 1}
        for name, inner in reversed(list(zip(names, names[1:]))):
            sizes[name] = 2 + MANY * sizes[inner]
        weave = Weave("abc", rules, names[0])
        self.assertEqual(weave.size, sizes[names[0]])
        self.assertEqual(weave.part(0, 50), "a" * 39 + "c" * 11)
        self.assertEqual(weave.part(weave.size - 50, 50), "c" * 11 + "b" * 39)
        self.assertEqual([weave.letter(38), weave.letter(39), weave.letter(weave.size - 40)], ["a", "c", "c"])
        # The innermost rule ends behind MANY times c, then the next copy of the one around it begins.
        self.assertEqual(weave.part(38 + MANY, 2000), "cba" + "c" * 1997)

    def test_rules_that_the_root_does_not_need(self):
        rules = {"X": [("a", 1)], "Y": [("X", 5), ("Z", 1)], "Z": [("b", 2)]}
        self.assertEqual([Weave("ab", rules, root).size for root in ("X", "Y", "Z")], [1, 7, 2])

    def test_what_was_passed_may_be_changed_afterwards(self):
        rules = {"X": [["ab", 2], ("Y", 1)], "Y": [["b", 3]]}
        kept = copy.deepcopy(rules)
        weave = Weave("ab", rules, "X")
        self.assertEqual(rules, kept)
        rules["X"][0][0] = "bb"
        rules["Y"].append(("a", 1))
        del rules["Y"]
        self.assertEqual((weave.size, weave.part(0, 7)), (7, "ababbbb"))
        self.assertEqual(far(made("ab", "ab", "plain"), weave).told, 2)


class WrongWeaves(unittest.TestCase):

    def refused(self, error, fields, letters, rules, root):
        with self.assertRaises(error) as caught:
            Weave(letters, rules, root)
        self.assertIsInstance(caught.exception, SkipsError)
        self.assertEqual({name: getattr(caught.exception, name) for name in fields}, fields)

    def wrong_rule(self, name, rules):
        """Whether the first wrong rule is found, also where there are other faults further on."""
        self.refused(BadRule, {"name": name}, "ab", rules, "X")
        self.refused(BadRule, {"name": name}, "ab", rules, None)
        self.refused(BadRule, {"name": name}, "ab", {**rules, "MORE": None}, "NONE")
        self.refused(BadRule, {"name": name}, "ab", {"RING": [("RING", 1)], "GOOD": [("b", 1)], **rules}, "X")

    def test_letters(self):
        for letters in WRONG_LETTERS:
            self.refused(BadLetters, {"letters": letters}, letters, {"X": [("a", 1)]}, "X")
            self.refused(BadLetters, {"letters": letters}, letters, None, None)

    def test_how_many_rules(self):
        names = [chr(65 + at // 26) + chr(65 + at % 26) for at in range(60)]
        for many in (0, 41, 42, 60):
            rules = {name: [("a", 1)] for name in names[:many]}
            self.refused(TooMany, {"what": "rules", "many": many, "most": 40}, "ab", rules, names[0])
            self.refused(TooMany, {"what": "rules", "many": many, "most": 40}, "ab", {name: None for name in rules}, [])
        self.assertEqual(Weave("ab", {name: [("a", 1)] for name in names[:40]}, names[0]).size, 1)

    def test_rules_that_are_no_dict(self):
        for rules in any_values() + [("X", [("a", 1)]), "X", 1]:
            if not isinstance(rules, dict):
                self.refused(TooMany, {"what": "rules", "many": 0, "most": 40}, "ab", rules, "X")

    def test_keys_that_are_no_names(self):
        unhashable = (list, dict)
        for name in ["", "a", "x", "Xy", "ABCDEFGHI", "X ", " X", "X1", "\u00c4", "\u0391", "X_", "@", "[", 0, 1, True,
                     None, ("X",), (), made, ("a", ("b", 1)), Weave("ab", {"X": [("a", 1)]}, "X")]:
            self.assertNotIsInstance(name, unhashable)
            self.wrong_rule(name, {name: [("a", 1)]})
            self.wrong_rule(name, {"Y": [("a", 1)], name: [("a", 1)], "Z": [("a", 1)]})

    def test_values_that_are_no_lists(self):
        for value in any_values() + ["ab", 0, 1, {"a": 1}, {0: ("a", 1)}, [("a", 1)] * 9, (("a", 1),) * 9, ("a", 1)]:
            self.wrong_rule("X", {"X": value, "Y": [("a", 1)]})
            self.wrong_rule("X", {"Y": [("a", 1)], "X": value})

    def test_pairs(self):
        for pair in any_values() + ["ab", "a1", 0, 1, ("a",), ("a", 1, 1), ["a", 1, None], {"a": 1, "b": 1}, (), []]:
            for at in range(3):
                pairs = [("a", 1), ("X", 1)]
                pairs.insert(at, pair)
                self.wrong_rule("Y", {"X": [("b", 2)], "Y": pairs, "Z": [pair]})

    def test_parts(self):
        wrong = ["", "c", "abc", "a" * 61, "ab" * 31, "aB", "Ab", "a ", "NONE", "x", "X1", "ABCDEFGHI", "ab\n", 0, 1]
        for part in any_values() + wrong:
            self.wrong_rule("Y", {"X": [("b", 2)], "Y": [(part, 1)]})
            self.wrong_rule("Y", {"X": [("b", 2)], "Y": (["a", 1], [part, 1], ["b", 1]), "Z": [(part, 1)]})

    def test_a_name_must_be_a_key(self):
        self.wrong_rule("X", {"X": [("Y", 1)]})
        self.wrong_rule("X", {"X": [("Z", 1)], "Y": [("a", 1)]})
        self.wrong_rule("X", {"X": [("Y1", 1)], "Y1": [("a", 1)]})
        self.wrong_rule("X", {"X": [("xy", 1)], "xy": [("a", 1)]})
        self.wrong_rule("Y", {"X": [("Y", 1)], "Y": [("a", 0)]})

    def test_counts(self):
        for count in any_values() + [0, -1, MANY + 1, -MANY, "1", (1,), [1]]:
            self.wrong_rule("Y", {"X": [("b", MANY)], "Y": [("a", count)]})
            self.wrong_rule("Y", {"X": [("b", MANY)], "Y": [("a", 1), ("X", count)]})

    def test_rings(self):
        for name, rules in [
            ("X", {"X": [("X", 1)]}),
            ("X", {"X": [("a", 1), ("b", 3), ("X", 2)]}),
            ("X", {"Y": [("X", 1)], "X": [("X", 1)]}),
            ("Y", {"X": [("Y", 1)], "Y": [("a", 1), ("Y", 1)]}),
            ("X", {"Z": [("X", 1)], "Y": [("Z", 1)], "X": [("a", 1), ("Y", 1)]}),
            ("B", {"X": [("X", 1)], "B": [("C", 1)], "A": [("B", 1), ("X", 1)], "C": [("b", 1), ("B", 9)]}),
            ("BB", {"BC": [("BB", 1)], "BB": [("BC", 1)], "B": [("a", 1)], "A": [("BB", 1)]}),
            ("D", {"A": [("B", 1)], "B": [("C", 1)], "C": [("D", 1)], "D": [("E", 1)], "E": [("D", 1), ("a", 1)]}),
        ]:
            for root in list(rules) + ["NONE", None]:
                self.refused(Ring, {"name": name}, "ab", rules, root)
                backwards = {key: rules[key] for key in reversed(rules)}
                self.refused(Ring, {"name": name}, "ab", backwards, root)

    def test_names_twice_in_one_another_are_no_ring(self):
        rules = {"A": [("B", 1), ("C", 2), ("B", 1)], "B": [("C", 1), ("C", 1)], "C": [("D", 3)], "D": [("a", 1)]}
        self.assertEqual(Weave("ab", rules, "A").size, 18)

    def test_roots(self):
        for root in any_values() + ["Y", "a", "x", "", 0, ("X",), ["X"], {"X": 1}]:
            self.refused(NoRule, {"root": root}, "ab", {"X": [("a", 1)]}, root)

    def test_the_order_of_the_errors(self):
        forty_one = {"A" * (1 + at % 8) + chr(65 + at // 8): None for at in range(41)}
        self.assertEqual(len(forty_one), 41)
        self.refused(BadLetters, {"letters": "aa"}, "aa", forty_one, None)
        self.refused(TooMany, {"many": 41}, "ab", forty_one, None)
        self.refused(TooMany, {"many": 0}, "ab", {}, None)
        self.refused(BadRule, {"name": "Y"}, "ab", {"X": [("X", 1)], "Y": []}, "Z")
        self.refused(BadRule, {"name": "b"}, "ab", {"X": [("X", 1)], "b": [("a", 1)], "A": []}, "Z")
        self.refused(Ring, {"name": "X"}, "ab", {"X": [("X", 1)]}, "Z")
        self.refused(NoRule, {"root": "Z"}, "ab", {"X": [("a", 1)]}, "Z")


class WrongPlaces(unittest.TestCase):

    def setUp(self):
        self.weaves = [Weave("ab", {"X": [("ab", 3), ("b", 1)]}, "X"),
                       Weave("ab", {"X": [("Y", MANY)], "Y": [("aab", MANY)]}, "X")]

    def refused(self, error, fields, call):
        with self.assertRaises(error) as caught:
            call()
        self.assertIsInstance(caught.exception, SkipsError)
        self.assertEqual({name: getattr(caught.exception, name) for name in fields}, fields)

    def test_letter(self):
        for weave in self.weaves:
            for number in any_values() + [weave.size, weave.size + 1, -weave.size, "0", (0,)]:
                if number != 10 ** 39 or weave.size < 10 ** 39:
                    self.refused(BadPlace, {"number": number}, lambda: weave.letter(number))
            self.assertEqual([weave.letter(0), weave.letter(weave.size - 1)], ["a", "b"])

    def test_sizes(self):
        for weave in self.weaves:
            for size in any_values() + [2001, 10 ** 9, MANY, "1", (1,)]:
                for first in (0, 1, weave.size, -1, None, [1], True):
                    told = {"what": "letters", "many": size, "most": 2000}
                    self.refused(TooMany, told, lambda: weave.part(first, size))

    def test_firsts(self):
        for weave in self.weaves:
            for size in (0, 1, 2, 7):
                for first in any_values() + [weave.size - size + 1, weave.size + 1, -size - 1, "0", (0,)]:
                    if first != 10 ** 39 or weave.size < 10 ** 39:
                        self.refused(BadPlace, {"number": first}, lambda: weave.part(first, size))
                self.assertEqual(len(weave.part(weave.size - size, size)), size)
            self.assertEqual(weave.part(weave.size, 0), "")
        for first, size in ((0, 8), (1, 7), (0, 2000), (7, 1)):
            self.refused(BadPlace, {"number": first}, lambda: self.weaves[0].part(first, size))


if __name__ == "__main__":
    unittest.main()
