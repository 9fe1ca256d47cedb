import itertools
import time
import unittest

from tests.plain import (
    Draws, any_values, changed, complete, cost_over, fraction, made_ones, many_standings, renamed_letters, reordered,
    search, small_searcher, texts_up_to, told_twice)
from wordskips.costs import costs
from wordskips.duels import Lead, is_lead, joints, lasts, lead, other_places, rounds
from wordskips.errors import NoJoint, OtherLetters, OtherWidth, SkipsError, TooMany
from wordskips.knowledge import standings
from wordskips.makers import made
from wordskips.ratios import Ratio
from wordskips.searchers import Searcher

FIRST = (0, 0, 0, "")
ONCE = Searcher.read("ab 1\nread 0 [a: tell 0 go 1 0, b: go 1 0]")
TWICE = Searcher.read("ab 1\nread 0 [a: read 0 [a: tell 0 go 1 0, b: go 1 0], b: go 1 0]")


def gone(searcher, state, window):
    """The reads, the tells, the slide and the next state of a turn over a window; "-" stands for no letter behind it."""
    reads, tells, tree = [], [], searcher.states[state]
    while tree[0] == "tell" or tree[0] == "read" and window[tree[1]] != "-":
        if tree[0] == "tell":
            tells.append(tree[1])
            tree = tree[2]
        else:
            reads.append(tree[1])
            tree = tree[2][searcher.letters.index(window[tree[1]])]
    return (reads, tells, *(tree[1:] if tree[0] == "go" else (None, None)))


def gone_rounds(one, other, joint, behind):
    """All rounds of a joint, written anew: (difference, letters, next joint, whether they tell alike).

    behind has the signs that may stand behind the lesser window; "-" alone is for last rounds.
    """
    first, second, lag, known = joint
    width = one.width
    signs = [known[place] if known[place:place + 1] not in ("", ".") else one.letters for place in range(width)]
    found = set()
    for window in itertools.product(*signs, behind):
        mine = gone(one, first, window) if lag <= 0 else ([], [], 0, first)
        yours = gone(other, second, window) if lag >= 0 else ([], [], 0, second)
        alike = set(mine[1]) == set(yours[1])
        difference = len(mine[0]) - len(yours[0])
        if behind == "-":
            found.add((difference, None, None, alike))
            continue
        read = {*mine[0], *yours[0], *(place for place, sign in enumerate(known) if sign != ".")}
        my_place, your_place = max(0, lag) + mine[2], max(0, -lag) + yours[2]
        moved = min(my_place, your_place)
        after = "".join(window[place] if place in read else "." for place in range(moved, width + 1)).rstrip(".")
        found.add((difference, moved, (mine[3], yours[3], my_place - your_place, after), alike))
    return found


def gone_joints(one, other):
    """A dict from the joints that come up to their rounds and their last rounds."""
    found, waiting = {}, [FIRST]
    while waiting:
        joint = waiting.pop()
        if joint not in found:
            found[joint] = (gone_rounds(one, other, joint, one.letters), gone_rounds(one, other, joint, "-"))
            waiting.extend([after for _, _, after, _ in found[joint][0]])
    return found


def difference_on(one, other, text):
    return cost_over(one, text) - cost_over(other, text)


def holds(one, other, told, ahead):
    """What is_lead should be; ahead are the joints as gone_joints has them."""
    pace, heights, tops = fraction(told.pace), told.heights, told.tops
    if not isinstance(heights, dict) or set(heights) != set(ahead) or told.ring == "":
        return False
    for joint, (found, _) in ahead.items():
        for difference, letters, after, _ in found:
            if difference - pace * letters + fraction(heights[after]) > fraction(heights[joint]):
                return False
    on = [difference_on(one, other, told.front + told.ring * times) for times in (9, 10, 11)]
    if [on[1] - on[0], on[2] - on[1]] != [pace * len(told.ring)] * 2:
        return False
    if pace > 0:
        return told.most is None and tops is None and told.text is None
    if told.most is None or not isinstance(tops, dict) or set(tops) != set(ahead) or not isinstance(told.text, str):
        return False
    for joint, (found, last) in ahead.items():
        bounds = [difference for difference, _, _, _ in last]
        bounds += [difference + tops[after] for difference, _, after, _ in found]
        bounds += [difference for difference, letters, _, _ in found if letters >= 2]
        if tops[joint] < max(bounds):
            return False
    return told.most == max(0, tops[FIRST]) and difference_on(one, other, told.text) == told.most


def begun_late(draws, searcher):
    """The same searcher behind some turns of other kinds: it reads and slides as it likes at first."""
    many = len(searcher.states)
    states = list(searcher.states)
    for state in range(2):
        after = draws.below(many) if state == 0 else many
        places = [draws.below(searcher.width + 1) for _ in range(1 + draws.below(3))]
        states.append(complete(searcher.letters, places, lambda _: ("go", 1 + draws.below(searcher.width + 1), after)))
    names = [many + 1, *range(many), many][:many + 2]
    turned = [names.index(state) for state in range(many + 2)]

    def renamed(tree):
        if tree[0] == "go":
            return ("go", tree[1], turned[tree[2]])
        if tree[0] == "tell":
            return ("tell", tree[1], renamed(tree[2]))
        return ("read", tree[1], tuple(renamed(branch) for branch in tree[2]))
    return Searcher(searcher.letters, searcher.width, [renamed(states[name]) for name in names])


def drawn_pairs(seed, many, width=None):
    """Pairs of searchers of the same letters and width: drawn ones, made ones, and one with a part or two otherwise."""
    draws = Draws(seed)
    pairs = []
    for _ in range(many):
        one = small_searcher(draws, draws.one_of(["ab", "ba", "ab", "cab"]), width or 1 + draws.below(3))
        pairs.append((one, small_searcher(draws, one.letters, one.width)))
        pairs.append((one, changed(draws, one)))
        pairs.append((begun_late(draws, one), one))
    ones = [searcher for searcher, _ in made_ones()]
    for _ in range(many):
        one = draws.one_of(ones)
        pairs.append((one, draws.one_of([one for one in ones if one.width == 3 and one.letters == "ab"])))
        if pairs[-1][0].width != 3 or one.letters != "ab":
            pairs[-1] = (one, changed(draws, one))
        pairs.append((begun_late(draws, one), begun_late(draws, one)))
    return [(one, other) for one, other in pairs if len(standings(one)) * len(standings(other)) < 900]


class Joints(unittest.TestCase):

    def test_against_rounds_written_anew(self):
        for one, other in drawn_pairs(121, 70):
            ahead = gone_joints(one, other)
            found = joints(one, other)
            self.assertIsInstance(found, tuple)
            self.assertEqual(list(found), sorted(ahead))
            for at, joint in enumerate(found):
                if at < 6 or at % 7 == 0:
                    triples = sorted({row[:3] for row in ahead[joint][0]})
                    self.assertEqual(rounds(one, other, joint), tuple(triples))
                    self.assertEqual(lasts(one, other, joint), tuple(sorted({row[0] for row in ahead[joint][1]})))

    def test_turned_about(self):
        for one, other in drawn_pairs(122, 30):
            back = sorted((second, first, -lag, known) for first, second, lag, known in joints(one, other))
            self.assertEqual(list(joints(other, one)), back)

    def test_one_against_itself(self):
        for searcher, _ in made_ones():
            found = joints(searcher, searcher)
            self.assertEqual(len(found), len(standings(searcher)))
            self.assertEqual({(first == second, lag) for first, second, lag, _ in found}, {(True, 0)})
            self.assertEqual({row[0] for joint in found[:9] for row in rounds(searcher, searcher, joint)}, {0})
            self.assertEqual({lasts(searcher, searcher, joint) for joint in found[:9]}, {(0,)})

    def test_the_lesser_window_alone_is_gone_on_with(self):
        one, other = Searcher.read("ab 2\ngo 3 0"), Searcher.read("ab 2\nread 1 [a: go 1 0, b: go 2 0]")
        self.assertEqual(joints(one, other), (
            (0, 0, -1, "b"), (0, 0, 0, ""), (0, 0, 0, "a"), (0, 0, 1, ""), (0, 0, 1, "a"), (0, 0, 2, ""), (0, 0, 2, "a")))
        # At lag 1 the second one reads its place 1: b slides its window past the one of the first, who is next.
        self.assertEqual(rounds(one, other, (0, 0, 1, "")), ((-1, 1, (0, 0, -1, "b")), (-1, 1, (0, 0, 0, "a"))))
        self.assertEqual(rounds(one, other, (0, 0, -1, "b")), ((0, 1, (0, 0, 2, "")),))
        self.assertEqual(rounds(one, other, FIRST), ((-1, 1, (0, 0, 2, "a")), (-1, 2, (0, 0, 1, ""))))
        self.assertEqual([lasts(one, other, joint) for joint in joints(one, other)], [(0,)] + [(-1,)] * 6)
        self.assertEqual(lasts(other, one, (0, 0, -1, "")), (1,))

    def test_the_letter_behind(self):
        # The first one reads it; the second one, at the same window, finds it known, and reads place 0.
        one = Searcher.read("ab 1\nread 1 [a: read 0 [a: go 1 0, b: go 1 0], b: go 2 0]")
        other = Searcher.read("ab 1\nread 1 [a: go 1 0, b: read 0 [a: go 1 0, b: go 2 0]]")
        for pair in ((one, other), (other, one)):
            for joint, (found, last) in gone_joints(*pair).items():
                self.assertEqual(set(rounds(*pair, joint)), {row[:3] for row in found})
                self.assertEqual(set(lasts(*pair, joint)), {row[0] for row in last})
        self.assertEqual(lasts(one, other, FIRST), (0,))
        self.assertEqual({row[0] for row in rounds(one, other, FIRST)}, {-1, 1})


class Leads(unittest.TestCase):

    def check(self, one, other, size):
        told = lead(one, other)
        ahead = gone_joints(one, other)
        self.assertIsInstance(told, Lead)
        self.assertTrue(holds(one, other, told, ahead), (one.written(), other.written()))
        self.assertIs(is_lead(one, other, told), True)
        self.assertEqual({height.__class__ for height in told.heights.values()}, {Ratio})
        self.assertLessEqual(set(told.front + told.ring), set(one.letters))
        on = [difference_on(one, other, told.front + told.ring * times) for times in (9, 12, 15)]
        self.assertEqual([fraction(told.pace) * len(told.ring) * 3] * 2, [on[1] - on[0], on[2] - on[1]])
        most = {}
        for text in texts_up_to(one.letters, size):
            found = difference_on(one, other, text)
            most[len(text)] = max(found, most.get(len(text), found))
        if told.most is None:
            self.assertEqual((told.tops, told.text), (None, None))
            return told
        self.assertEqual((type(told.most), {type(top) for top in told.tops.values()}), (int, {int}))
        self.assertLessEqual(set(told.text), set(one.letters))
        for many, found in most.items():
            self.assertLessEqual(found, told.most)
            if found == told.most:
                self.assertLessEqual(len(told.text), many)
        return told

    def test_against_all_short_texts(self):
        bounded, long = 0, 0
        for one, other in drawn_pairs(123, 60):
            told = self.check(one, other, 7 if len(one.letters) == 2 else 5)
            back = self.check(other, one, 5 if len(one.letters) == 2 else 4)
            self.assertFalse((told.pace + back.pace).is_less(0))
            bounded += told.most is not None
            long += bool(told.text) and len(told.text) > one.width
        self.assertGreater(bounded, 40)
        self.assertGreater(long, 10)

    def test_made_ones(self):
        for word in ("a", "ab", "aba", "aab"):
            ones = [made("ab", word, way) for way in ("borders", "letter behind", "both and known", "all knowledge")]
            for one, other in itertools.permutations(ones, 2):
                told = self.check(one, other, 7)
                self.assertFalse((told.pace + lead(other, one).pace).is_less(0))

    def test_against_itself(self):
        draws = Draws(124)
        for _ in range(60):
            searcher = small_searcher(draws)
            told = self.check(searcher, searcher, 3)
            self.assertEqual((str(told.pace), told.most, told.text), ("0", 0, ""))
            self.assertEqual(lead(searcher, searcher.least()).most, 0)
            self.assertEqual(lead(told_twice(draws, searcher), searcher).most, 0)

    def test_over_the_one_that_reads_nothing(self):
        draws = Draws(125)
        for _ in range(80):
            searcher = small_searcher(draws)
            for by in range(1, searcher.width + 2):
                nothing = Searcher(searcher.letters, searcher.width, [("go", by, 0)])
                told = lead(searcher, nothing)
                self.assertEqual(told.pace, costs(searcher).dearest)
                self.assertIs(told.most is None, Ratio(0).is_less(told.pace))
                self.assertFalse(Ratio(0).is_less(lead(nothing, searcher).pace))
                self.assertEqual(lead(nothing, searcher).most, 0)

    def test_texts_that_end_behind_a_window(self):
        # It reads more in the first turn alone, and pays for it at the second window, if there is one.
        one = Searcher.read("ab 2\nread 0 [a: read 0 [a: go 2 1, b: go 1 1], b: go 1 1]\nread 0 [a: go 1 1, b: go 1 1]")
        other = Searcher.read("ab 2\nread 0 [a: go 1 1, b: go 1 1]\nread 0 [a: read 0 [a: read 0 [a: go 1 1, b: go 1 1], "
                              "b: go 1 1], b: read 0 [a: read 0 [a: go 1 1, b: go 1 1], b: read 1 [a: go 1 1, b: go 1 1]]]")
        told = self.check(one, other, 7)
        self.assertEqual((told.most, len(told.text), told.text[0]), (1, 2, "a"))
        # With the letter behind it is read just in texts of one letter more, behind which no other window lies.
        behind = Searcher.read("ab 2\nread 2 [a: read 2 [a: go 3 1, b: go 1 1], b: go 1 1]\nread 0 [a: go 1 1, b: go 1 1]")
        quick = Searcher.read("ab 2\ngo 2 1\n" + other.written().split("\n")[2])
        told = self.check(behind, quick, 7)
        self.assertEqual((told.most, told.text[2:], str(told.pace)), (2, "a", "-2"))

    def test_no_text_is_needed(self):
        told = lead(ONCE, TWICE)
        self.assertEqual((told.most, told.text, str(told.pace)), (0, "", "0"))
        told = lead(Searcher.read("ab 1\ngo 1 0"), ONCE)
        self.assertEqual((told.most, told.text, str(told.pace), told.tops), (0, "", "-1", {FIRST: -1}))

    def test_other_forms(self):
        draws = Draws(126)
        for one, other in drawn_pairs(126, 12):
            told = lead(one, other)
            letters = "qxyz"[:len(one.letters)]
            backwards = one.letters[::-1]
            for first, second in ((one.least(), other), (one, told_twice(draws, other)),
                                  (reordered(one, backwards), reordered(other, backwards)),
                                  (renamed_letters(one, letters), renamed_letters(other, letters))):
                found = lead(first, second)
                self.assertEqual((found.pace, found.most), (told.pace, told.most))
                self.assertEqual(len(found.text or ""), len(told.text or ""))

    def test_what_is_handed_over_is_copied(self):
        heights, tops = {FIRST: Ratio(0)}, {FIRST: 0}
        told = Lead(Ratio(0), heights, "", "b", 0, tops, "")
        heights.clear()
        tops[FIRST] = 7
        self.assertEqual((told.heights, told.tops), ({FIRST: Ratio(0)}, {FIRST: 0}))
        self.assertIs(is_lead(ONCE, TWICE, told), True)
        self.assertEqual(set(vars(told)), {"pace", "heights", "front", "ring", "most", "tops", "text"})
        unbound = Lead(Ratio(1), {FIRST: Ratio(0)}, "", "a", None, None, None)
        self.assertIs(is_lead(TWICE, ONCE, unbound), True)
        found = lead(ONCE, TWICE)
        found.heights.clear()
        found.tops.clear()
        self.assertEqual((len(lead(ONCE, TWICE).heights), len(lead(ONCE, TWICE).tops)), (1, 1))


class IsLead(unittest.TestCase):

    def changes(self, draws, told):
        """What is told, with one thing otherwise."""
        fields = vars(told)
        joint = draws.one_of(sorted(told.heights))
        up = {key: height + 1 for key, height in told.heights.items()}
        less = {key: told.heights[key] for key in told.heights if key != joint}
        pairs = [("pace", told.pace + by) for by in (Ratio(1, 7), Ratio(-1, 7), 1)] + [("pace", -told.pace)]
        pairs += [("heights", table) for table in (
            up, less, {**told.heights, (7, 7, 0, ""): Ratio(0)}, {}, {**told.heights, joint: told.heights[joint] + 1},
            {**told.heights, joint: told.heights[joint] - Ratio(1, 3)}, {**told.heights, joint: told.heights[joint] - 5})]
        pairs += [("ring", text) for text in ("", told.ring * 2, told.ring + "a", "b", "a")]
        pairs += [("front", text) for text in ("", told.front + told.ring, told.front + "a", told.front[1:] + "b")]
        pairs += [("most", most) for most in (0, 1, 2, None, (told.most or 0) + 1)]
        pairs += [("text", text) for text in ("", None, (told.text or "") + "a", "ab", "bbbaab")]
        tops = told.tops or {joint: 0 for joint in told.heights}
        pairs += [("tops", table) for table in (
            None, {}, tops, {**tops, joint: tops[joint] + 1}, {**tops, joint: tops[joint] - 1}, {**tops, (1, 1, 9, "b"): 0},
            {key: tops[key] for key in tops if key != joint}, {key: top + 1 for key, top in tops.items()})]
        for name, value in pairs:
            yield Lead(*[value if name == field else fields[field] for field in (
                "pace", "heights", "front", "ring", "most", "tops", "text")])

    def test_one_thing_otherwise(self):
        draws = Draws(127)
        found = {True: 0, False: 0}
        for one, other in drawn_pairs(127, 30)[::2]:
            told, ahead = lead(one, other), gone_joints(one, other)
            for some in self.changes(draws, told):
                answer = is_lead(one, other, some)
                self.assertIs(answer, holds(one, other, some, ahead))
                found[answer] += 1
        self.assertGreater(min(found.values()), 300, found)

    def test_values_of_other_kinds(self):
        told = vars(lead(ONCE, TWICE))
        for name, values in (("pace", [0, None, "0"]), ("heights", [None, [], {FIRST: 0}, {FIRST: None}]),
                             ("ring", [None, "c", 1, ["a"]]), ("front", [None, "ac", 1]), ("most", ["0", False, Ratio(0)]),
                             ("tops", [[], {FIRST: None}, {FIRST: Ratio(0)}, {FIRST: False}]), ("text", [1, "c", []])):
            for value in values:
                self.assertIs(is_lead(ONCE, TWICE, Lead(**{**told, name: value})), False, (name, value))
        searcher = made("ab", "ab", "borders")
        told = vars(lead(searcher, searcher))
        for joint in told["heights"]:
            for name, values in (("heights", [0, None, "0", 1]), ("tops", [None, "0", False, Ratio(0)])):
                for value in values:
                    some = Lead(**{**told, name: {**told[name], joint: value}})
                    self.assertIs(is_lead(searcher, searcher, some), False, (name, joint, value))

    def test_of_other_searchers(self):
        self.assertIs(is_lead(TWICE, ONCE, lead(ONCE, TWICE)), False)
        self.assertIs(is_lead(ONCE, TWICE, lead(TWICE, ONCE)), False)


class OtherPlaces(unittest.TestCase):

    def check(self, one, other, size):
        text = other_places(one, other)
        least = None
        for short in texts_up_to(one.letters, size):
            if set(search(one, short)[1]) != set(search(other, short)[1]):
                least = len(short)
                break
        if text is None:
            self.assertIsNone(least)
            self.assertTrue(all(row[3] for rows in gone_joints(one, other).values() for part in rows for row in part))
            return None
        self.assertNotEqual(set(search(one, text)[1]), set(search(other, text)[1]))
        if least is None:
            self.assertGreater(len(text), size)
        else:
            self.assertEqual(len(text), least)
        return len(text)

    def test_against_all_short_texts(self):
        alike, apart = 0, 0
        for one, other in drawn_pairs(128, 120):
            sizes = [self.check(one, other, 7 if len(one.letters) == 2 else 5), self.check(other, one, 3)]
            self.assertEqual(sizes[0], sizes[1])
            alike += sizes[0] is None
            apart += sizes[0] is not None and sizes[0] > one.width
        self.assertGreater(alike, 30)
        self.assertGreater(apart, 30)

    def test_made_ones(self):
        for word in ("b", "ab", "aa", "aba", "abb"):
            ones = [made("ab", word, way) for way in ("borders", "plain", "letter behind", "both", "all knowledge")]
            for one, other in itertools.permutations(ones, 2):
                self.assertIsNone(self.check(one, other, 6))

    def test_numbers_and_order(self):
        one = Searcher.read("ab 1\ntell 0 tell 1 tell 0 go 1 0")
        for text, size in (("tell 1 tell 0 go 1 0", None), ("tell 0 go 1 0", 1), ("tell 0 tell 1 tell 2 go 1 0", 1),
                           ("tell 0 tell 1 go 2 0", 2), ("tell 0 tell 1 read 1 [a: go 1 0, b: go 1 0]", None),
                           ("tell 0 read 1 [a: tell 1 go 1 0, b: tell 1 go 1 0]", 1)):
            self.assertEqual(self.check(one, Searcher.read("ab 1\n" + text), 5), size)

    def test_late_ones(self):
        trees = [complete("ab", [0, 1], ("go", 1, state + 1)) for state in range(5)]
        one, other = Searcher("ab", 2, [*trees, ("go", 1, 0)]), Searcher("ab", 2, [*trees, ("tell", 1, ("go", 1, 0))])
        self.assertEqual(self.check(one, other, 7), 7)


class Refused(unittest.TestCase):

    def refused(self, error, fields, call, *values):
        with self.assertRaises(error) as caught:
            call(*values)
        self.assertIsInstance(caught.exception, SkipsError)
        self.assertEqual(vars(caught.exception), fields)

    def test_other_letters_and_widths(self):
        wide, turned = Searcher.read("ab 2\ngo 1 0"), Searcher.read("ba 1\ngo 1 0")
        both = Searcher.read("abc 3\ngo 1 0")
        for call, values in ((joints, ()), (rounds, (None,)), (lasts, ([],)), (lead, ()), (other_places, ()),
                             (is_lead, (lead(ONCE, ONCE),))):
            for pair in ((ONCE, turned), (turned, ONCE), (both, ONCE), (ONCE, both)):
                self.refused(OtherLetters, {}, call, *pair, *values)
            for pair in ((ONCE, wide), (wide, ONCE)):
                self.refused(OtherWidth, {}, call, *pair, *values)

    def test_values_that_are_no_joints(self):
        values = any_values() + [
            [0, 0, 0, ""], (0, 0, 0), (0, 0, 0, "", ""), (0, 0, False, ""), (False, 0, 0, ""), (0, 0, 0, "."),
            (0, 0, 0, "a"), (0, 0, 1, ""), (1, 0, 0, ""), (0, 0, 0, None), (0, 0, 0, [""]), (0, 0, [0], ""), ((0, 0, 0, ""),), "(0, 0, 0, )",
            (0, -1, 0, ""), (10 ** 39, 0, 0, ""), (0, "0", 0, ""), (Ratio(0), 0, 0, "")]
        for value in values:
            for call in (rounds, lasts):
                self.refused(NoJoint, {"joint": value}, call, ONCE, TWICE, value)

    def test_how_many_joints(self):
        fields = {"what": "joints", "many": 2001, "most": 2000}
        begun = time.monotonic()
        searcher = many_standings(1)
        for call, values in ((joints, ()), (rounds, (None,)), (lasts, ([],)), (lead, ()), (other_places, ()),
                             (is_lead, (lead(ONCE, ONCE),))):
            self.refused(TooMany, fields, call, searcher, searcher, *values)
        self.assertLess(time.monotonic() - begun, 60)


class Bounds(unittest.TestCase):

    def test_as_many_joints_as_are_let(self):
        begun = time.monotonic()
        one = many_standings(0, lambda go: complete("ab", [7, 7, 0] if go[2] % 2 else [7], go))
        other = many_standings(0, lambda go: complete("ab", [7, 3] if go[2] % 3 else [7, 6, 5, 7], go))
        self.assertEqual(len(joints(one, one)), 2000)
        self.assertGreater(len(joints(one, other)), 1900)
        # In 14 turns the first one reads 7 times 3 letters and 7 times 1, the second one 5 times 4 and 9 times 2.
        told = lead(one, other)
        self.assertEqual(str(told.pace), "-5/7")
        self.assertIs(is_lead(one, other, told), True)
        back = lead(other, one)
        self.assertIs(is_lead(other, one, back), True)
        self.assertEqual(back.pace, -told.pace)
        self.assertIsNone(other_places(one, other))
        self.assertIsNotNone(other_places(one, many_standings(0, lambda go: (
            "tell", 1, complete("ab", [7], go)) if go[2] == 54 else complete("ab", [7], go))))
        self.assertLess(time.monotonic() - begun, 60)

    def test_long_rings(self):
        # Lags of all kinds come up, and the ring goes over many joints; is_lead searches longer texts than trace.
        begun = time.monotonic()
        trees = [("read", state % 8, (("go", 9 - state % 2, (state + 1) % 61), ("go", 9 - state % 2, (state + 1) % 61)))
                 for state in range(61)]
        one = Searcher("ab", 8, trees)
        other = Searcher("ab", 8, [("go", 9, 0)])
        told = lead(one, other)
        self.assertGreater(len(joints(one, other)), 400)
        self.assertGreater(len(told.ring), 500)
        self.assertEqual(told.pace, costs(one).dearest)
        self.assertIs(is_lead(one, other, told), True)
        self.assertIs(is_lead(other, one, lead(other, one)), True)
        self.assertLess(time.monotonic() - begun, 60)


class Examples(unittest.TestCase):

    def test_of_the_document(self):
        self.assertEqual([joints(ONCE, TWICE), rounds(ONCE, TWICE, (0, 0, 0, "")), lead(ONCE, TWICE).most],
                         [((0, 0, 0, ""),), ((-1, 1, (0, 0, 0, "")), (0, 1, (0, 0, 0, ""))), 0])
        self.assertEqual([str(lead(TWICE, ONCE).pace), lead(TWICE, ONCE).most], ["1", None])


if __name__ == "__main__":
    unittest.main()
