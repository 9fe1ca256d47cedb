import unittest

from tests.plain import Draws, any_values, caterpillar, drawn_tree, parts_of, search, tells, texts_up_to
from wordskips.errors import BadLetters, BadLine, BadTree, BadWidth, SkipsError, TooMany
from wordskips.makers import made
from wordskips.searchers import Searcher
from tests.test_words import WRONG_LETTERS

LEAF = ("go", 1, 0)
ONE = "ab 2\nread 1 [a: go 1 0, b: read 0 [a: tell 0 go 2 0, b: go 2 0]]"
# For the letters "ab", the width 2 and two states; each one is wrong itself, whatever is within it.
WRONG_PARTS = any_values() + [
    0, 1, "go", "go 1 0", ("go",), ("go", 1), ("go", 1, 0, 0), ["go", 1, 0, None], ("stop", 1, 0), (None, 1, 0),
    (["go"], 1, 0), ("Go", 1, 0), ("go ", 1, 0), ("", 1, 0), (1, 1, 0),
    {"go": 1, "a": 2, "b": 3}, {0: "go", 1: 1, 2: 0},
    ("go", 0, 0), ("go", -1, 0), ("go", 4, 0), ("go", 10 ** 39, 0), ("go", True, 0), ("go", "1", 0), ("go", None, 0),
    ("go", (1,), 0), ("go", 1, 2), ("go", 1, -1), ("go", 1, 10 ** 39), ("go", 1, False), ("go", 1, True),
    ("go", 1, None), ("go", 1, "0"), ("go", 1, LEAF), ("go", LEAF, 0),
    ("tell",), ("tell", 0), ("tell", 0, LEAF, LEAF), ("tell", 3, LEAF), ("tell", -1, LEAF), ("tell", True, LEAF),
    ("tell", False, LEAF), ("tell", None, LEAF), ("tell", "0", LEAF), ("tell", LEAF, 0), ("Tell", 0, LEAF),
    ("read",), ("read", 0), ("read", 0, (LEAF, LEAF), 0), ("read", 0, LEAF, LEAF), ("read", 3, (LEAF, LEAF)),
    ("read", -1, (LEAF, LEAF)), ("read", False, (LEAF, LEAF)), ("read", True, (LEAF, LEAF)),
    ("read", None, (LEAF, LEAF)), ("read", "0", (LEAF, LEAF)), ("read", 0, ()), ("read", 0, (LEAF,)),
    ("read", 0, (LEAF, LEAF, LEAF)), ("read", 0, LEAF), ("read", 0, "ab"), ("read", 0, None), ("read", 0, 2),
    ("read", 0, {"a": LEAF, "b": LEAF}), ("read", 0, {0: LEAF, 1: LEAF}), ("reads", 0, (LEAF, LEAF)),
]


def as_lists(tree):
    return [as_lists(part) for part in tree] if isinstance(tree, (list, tuple)) else tree


def as_tuples(tree):
    return tuple(as_tuples(part) for part in tree) if isinstance(tree, (list, tuple)) else tree


def drawn_searcher(draws, letters, width, many, depth):
    return Searcher(letters, width, [drawn_tree(draws, letters, width, many, depth) for _ in range(many)])


def with_part(tree, number, part):
    """The tree with another part instead of the one with this number."""
    if number == 0:
        return part
    number -= 1
    inner = [tree[2]] if tree[0] == "tell" else list(tree[2])
    for at, branch in enumerate(inner):
        many = len(parts_of(branch))
        if number < many:
            inner[at] = with_part(branch, number, part)
            return (tree[0], tree[1], inner[0] if tree[0] == "tell" else tuple(inner))
        number -= many
    raise AssertionError("no such part")


class Base(unittest.TestCase):

    def refused(self, error, fields, call, *taken):
        with self.assertRaises(error) as caught:
            call(*taken)
        for field, value in fields.items():
            self.assertEqual(getattr(caught.exception, field), value)
            self.assertIs(type(getattr(caught.exception, field)), type(value))


class Right(Base):

    def test_attributes(self):
        tree = ("read", 1, (LEAF, ("read", 2, (("tell", 2, ("go", 3, 1)), ("go", 1, 0)))))
        searcher = Searcher("ba", 2, (tree, ("go", 2, 1)))
        self.assertEqual(searcher.letters, "ba")
        self.assertEqual(searcher.width, 2)
        self.assertEqual(searcher.states, (tree, ("go", 2, 1)))
        self.assertEqual(searcher.nodes, 7)

    def test_lists_give_tuples_down_to_the_parts(self):
        draws = Draws(1)
        for letters in ("ab", "cab", "wxyz"):
            for width in range(1, 9):
                states = [drawn_tree(draws, letters, width, 3, 6) for _ in range(3)]
                ways = [states, tuple(states), as_lists(states), tuple(as_lists(states)),
                        [as_lists(states[0])] + states[1:], [as_tuples(tree) for tree in states]]
                searchers = [Searcher(letters, width, passed) for passed in ways]
                for searcher in searchers:
                    self.assertEqual(repr(searcher.states), repr(tuple(states)))
                    self.assertEqual(searcher.nodes, sum(len(parts_of(tree)) for tree in states))
                    self.assertTrue(searcher == searchers[0])

    def test_what_was_passed_may_be_changed_afterwards(self):
        inner = ["go", 2, 0]
        branches = [["go", 1, 1], inner]
        tree = ["read", 0, branches]
        states = [tree, ["tell", 0, inner]]
        searcher = Searcher("ab", 2, states)
        self.assertEqual(states, [["read", 0, [["go", 1, 1], ["go", 2, 0]]], ["tell", 0, ["go", 2, 0]]])
        inner[1] = 3
        branches.append(None)
        tree[1] = 9
        states.pop()
        self.assertEqual(searcher.states, (("read", 0, (("go", 1, 1), ("go", 2, 0))), ("tell", 0, ("go", 2, 0))))

    def test_bounds_of_numbers(self):
        for width in (1, 2, 8):
            tree = ("read", width, (("go", width + 1, 63), ("read", 0, (("tell", 2, LEAF), ("go", 1, 0)))))
            searcher = Searcher("ab", width, [tree] + [LEAF] * 63)
            self.assertEqual(searcher.states, (tree,) + (LEAF,) * 63)
            self.assertEqual(searcher.nodes, 69)

    def test_forty_trees_within_one_another(self):
        for tree, nodes in ((tells(40), 40), (caterpillar(40), 79), (caterpillar(40, "abcd"), 157)):
            letters = "ab" if nodes < 100 else "abcd"
            searcher = Searcher(letters, 1, [tree])
            self.assertEqual(searcher.states, (tree,))
            self.assertEqual(searcher.nodes, nodes)
            self.assertTrue(Searcher.read(searcher.written()) == searcher)

    def test_three_thousand_trees(self):
        states = [caterpillar(40)] * 37 + [caterpillar(39)]
        self.assertEqual(sum(len(parts_of(tree)) for tree in states), 3000)
        searcher = Searcher("ab", 1, states)
        self.assertEqual(searcher.nodes, 3000)
        self.assertEqual(Searcher.read(searcher.written()).nodes, 3000)
        self.assertEqual(searcher.least().states, Searcher("ab", 1, [caterpillar(40)]).states)


class Wrong(Base):

    def test_letters(self):
        for letters in WRONG_LETTERS:
            self.refused(BadLetters, {"letters": letters}, Searcher, letters, 2, [LEAF])

    def test_width(self):
        for width in any_values() + [0, 9, 10, "2", (2,)]:
            self.refused(BadWidth, {"width": width}, Searcher, "ab", width, [LEAF])

    def test_how_many_states(self):
        for states, many in [([], 0), ((), 0), ([LEAF] * 65, 65), ((LEAF,) * 66, 66), ([None] * 65, 65)]:
            self.refused(TooMany, {"what": "states", "many": many, "most": 64}, Searcher, "ab", 2, states)
        self.assertEqual(len(Searcher("ab", 2, [LEAF] * 64).states), 64)

    def test_states_that_are_no_list(self):
        for states in [None, True, 1, "ab", {}, {0: LEAF}, made("ab", "ab", "plain")]:
            self.refused(TooMany, {"what": "states", "many": 0, "most": 64}, Searcher, "ab", 2, states)

    def test_each_wrong_part_at_each_depth(self):
        draws = Draws(2)
        trees = [LEAF, tells(4), caterpillar(4), ("read", 0, (("read", 1, (LEAF, LEAF)), ("tell", 0, LEAF)))]
        trees += [drawn_tree(draws, "ab", 2, 2, 5) for _ in range(6)]
        for tree in trees:
            for number in range(len(parts_of(tree))):
                for part in WRONG_PARTS:
                    bad = with_part(tree, number, part)
                    self.refused(BadTree, {"state": 0, "node": number}, Searcher, "ab", 2, [bad, LEAF])
                    self.refused(BadTree, {"state": 1, "node": number}, Searcher, "ab", 2, (LEAF, as_lists(bad)))

    def test_the_first_of_several_wrong_parts(self):
        draws = Draws(4)
        for _ in range(60):
            tree = drawn_tree(draws, "abc", 2, 2, 5)
            many = len(parts_of(tree))
            late, early = draws.below(many), draws.below(many)
            bad = with_part(tree, late, ("go", 0, 0))
            if early < len(parts_of(bad)):
                bad = with_part(bad, early, ("tell", 7, LEAF))
                late = min(early, late)
            self.refused(BadTree, {"state": 0, "node": late}, Searcher, "abc", 2, [bad, None])
            self.refused(BadTree, {"state": 1, "node": late}, Searcher, "abc", 2, [LEAF, bad])

    def test_a_wrong_part_comes_ahead_of_those_within_it(self):
        within = ("read", 0, (None, ("go", 0, 0)))
        self.refused(BadTree, {"state": 0, "node": 1}, Searcher, "ab", 2, [within])
        self.refused(BadTree, {"state": 0, "node": 0}, Searcher, "ab", 2, [("read", 3, (None, None))])
        self.refused(BadTree, {"state": 0, "node": 1}, Searcher, "ab", 2, [("tell", 0, None)])
        self.refused(BadTree, {"state": 0, "node": 0}, Searcher, "ab", 2, [("tell", 3, None)])
        self.refused(BadTree, {"state": 0, "node": 1}, Searcher, "abc", 2, [("read", 0, LEAF)])
        self.refused(BadTree, {"state": 0, "node": 4}, Searcher, "ab", 2,
                     [("read", 0, (("read", 0, (LEAF, LEAF)), ("go", 9, 9)))])

    def test_too_deep(self):
        self.refused(BadTree, {"state": 0, "node": 40}, Searcher, "ab", 1, [tells(41)])
        self.refused(BadTree, {"state": 1, "node": 40}, Searcher, "ab", 1, [LEAF, tells(60)])
        self.refused(BadTree, {"state": 0, "node": 79}, Searcher, "ab", 1, [caterpillar(42)])
        wide = LEAF
        for _ in range(60):
            wide = ("read", 0, (wide, wide))
        self.refused(BadTree, {"state": 0, "node": 40}, Searcher, "ab", 1, [wide])
        within = ("read", 0, (LEAF, tells(40)))
        self.refused(BadTree, {"state": 0, "node": 41}, Searcher, "ab", 1, [within])
        self.assertEqual(Searcher("ab", 1, [("read", 0, (LEAF, tells(39)))]).nodes, 41)

    def test_bounds_hang_on_the_width_and_the_states(self):
        for width in range(1, 9):
            leaves = (LEAF, LEAF)
            self.assertEqual(Searcher("ab", width, [("read", width, leaves)]).nodes, 3)
            self.refused(BadTree, {"state": 0, "node": 0}, Searcher, "ab", width, [("read", width + 1, leaves)])
            self.assertEqual(Searcher("ab", width, [("go", width + 1, 0)]).nodes, 1)
            self.refused(BadTree, {"state": 0, "node": 0}, Searcher, "ab", width, [("go", width + 2, 0)])
        for many in (1, 2, 63, 64):
            self.assertEqual(Searcher("ab", 1, [("go", 1, many - 1)] * many).nodes, many)
            self.refused(BadTree, {"state": many - 1, "node": 0}, Searcher, "ab", 1,
                         [LEAF] * (many - 1) + [("go", 1, many)])
        for letters in ("ab", "abc", "abcd"):
            for many in range(6):
                tree = ("read", 0, [LEAF] * many)
                if many == len(letters):
                    self.assertEqual(Searcher(letters, 1, [tree]).nodes, many + 1)
                else:
                    self.refused(BadTree, {"state": 0, "node": 0}, Searcher, letters, 1, [tree])

    def test_how_many_nodes(self):
        states = [caterpillar(40)] * 37 + [caterpillar(39)]
        for more, many in ((LEAF, 3001), (caterpillar(40), 3079)):
            self.refused(TooMany, {"what": "nodes", "many": many, "most": 3000}, Searcher, "ab", 1, states + [more])
        deep = LEAF
        for _ in range(11):
            deep = ["read", 0, [deep, deep]]
        self.refused(TooMany, {"what": "nodes", "many": 4095, "most": 3000}, Searcher, "ab", 1, [deep])

    def test_the_order_of_the_errors(self):
        many, wide = [None] * 65, [caterpillar(40)] * 40
        self.refused(BadLetters, {"letters": "a"}, Searcher, "a", 0, many)
        self.refused(BadLetters, {"letters": "a"}, Searcher, "a", 2, [None])
        self.refused(BadWidth, {"width": 0}, Searcher, "ab", 0, many)
        self.refused(BadWidth, {"width": 9}, Searcher, "ab", 9, wide)
        self.refused(TooMany, {"what": "states", "many": 65}, Searcher, "ab", 1, many)
        self.refused(TooMany, {"what": "states", "many": 80}, Searcher, "ab", 1, wide * 2)
        self.refused(BadTree, {"state": 40, "node": 0}, Searcher, "ab", 1, wide + [None])
        self.refused(TooMany, {"what": "nodes", "many": 3160}, Searcher, "ab", 1, wide)


class Equal(Base):

    def test_equal_and_not(self):
        one = Searcher("ab", 2, [LEAF])
        for other in (Searcher("ab", 2, (["go", 1, 0],)), Searcher("ab", 2, [LEAF]), one):
            self.assertTrue(one == other)
            self.assertFalse(one != other)
        for other in (Searcher("ba", 2, [LEAF]), Searcher("abc", 2, [LEAF]), Searcher("ab", 3, [LEAF]),
                      Searcher("ab", 2, [LEAF, LEAF]), Searcher("ab", 2, [("go", 2, 0)])):
            self.assertFalse(one == other)
            self.assertTrue(one != other)

    def test_not_equal_to_other_values(self):
        one = Searcher("ab", 2, [LEAF])
        for other in [None, True, 0, 1, "ab", "ab 2\ngo 1 0", ("ab", 2, (LEAF,)), (LEAF,), [LEAF], {}, [one],
                      SkipsError("x")]:
            self.assertFalse(one == other)
            self.assertFalse(other == one)
            self.assertTrue(one != other)


def apart(searcher):
    """The pairs of states that differ, by marking pair after pair."""
    marked = set()

    def differ(left, right):
        if left[:2] != right[:2]:
            return True
        if left[0] == "go":
            return (left[2], right[2]) in marked
        if left[0] == "tell":
            return differ(left[2], right[2])
        return any(differ(*pair) for pair in zip(left[2], right[2]))

    while True:
        more = {(one, other) for one, left in enumerate(searcher.states) for other, right in enumerate(searcher.states)
                if (one, other) not in marked and differ(left, right)}
        if not more:
            return marked
        marked |= more


def led_to(searcher):
    """The states that state 0 leads to, in the order in which they are met."""
    order = [0]
    for state in order:
        for part in parts_of(searcher.states[state]):
            if part[0] == "go" and part[2] not in order:
                order.append(part[2])
    return order


def moved(tree, names):
    if tree[0] == "go":
        return ("go", tree[1], names[tree[2]])
    if tree[0] == "tell":
        return ("tell", tree[1], moved(tree[2], names))
    return ("read", tree[1], tuple(moved(branch, names) for branch in tree[2]))


def few_kinds(draws, letters, width, many):
    """A searcher whose trees are of a few kinds, so that states are often one."""
    kinds = [drawn_tree(draws, letters, width, 2, 3) for _ in range(2)]
    states = []
    for _ in range(many):
        names = [draws.below(many), draws.below(many)]
        states.append(moved(draws.one_of(kinds), names))
    return Searcher(letters, width, states)


class Least(Base):

    def check(self, searcher):
        least = searcher.least()
        self.assertEqual((least.letters, least.width), (searcher.letters, searcher.width))
        marked = apart(searcher)
        kinds = []
        for state in led_to(searcher):
            if all((state, other) in marked for other in kinds):
                kinds.append(state)
        self.assertEqual(len(least.states), len(kinds))
        self.assertEqual(len(apart(least)), len(kinds) * (len(kinds) - 1))
        self.assertEqual(led_to(least), list(range(len(kinds))))
        names = {state: [(state, kind) in marked for kind in kinds].index(False) for state in led_to(searcher)}
        self.assertEqual(least.states, tuple(moved(searcher.states[kind], names) for kind in kinds))
        self.assertTrue(least.least() == least)
        return least

    def test_drawn_searchers(self):
        draws = Draws(5)
        for _ in range(150):
            self.check(few_kinds(draws, draws.one_of(["ab", "cba", "abcd"]), 1 + draws.below(3), 1 + draws.below(8)))
        for _ in range(30):
            self.check(drawn_searcher(draws, "ab", 2, 6, 4))

    def test_the_same_search(self):
        draws = Draws(6)
        for _ in range(20):
            searcher = few_kinds(draws, "ab", 2, 6)
            least = searcher.least()
            for text in texts_up_to("ab", 7):
                ways = [[(place, reads) for place, _, reads in windows] for windows in
                        (search(searcher, text)[0], search(least, text)[0])]
                self.assertEqual(ways[0], ways[1])
                self.assertEqual(search(searcher, text)[1], search(least, text)[1])

    def test_states_told_twice(self):
        draws = Draws(7)
        for _ in range(40):
            searcher = few_kinds(draws, "ab", 2, 5)
            names = [[state, state + 5] for state in range(5)]
            doubled = [moved(tree, [draws.one_of(pair) for pair in names]) for tree in searcher.states * 2]
            self.assertTrue(self.check(Searcher("ab", 2, doubled)) == searcher.least())

    def test_states_to_which_nothing_leads(self):
        draws = Draws(8)
        for _ in range(40):
            searcher = few_kinds(draws, "ab", 2, 4)
            more = [drawn_tree(draws, "ab", 2, 9, 4) for _ in range(5)]
            self.assertTrue(self.check(Searcher("ab", 2, list(searcher.states) + more)) == searcher.least())
        lonely = Searcher("ab", 1, [("go", 1, 0), ("go", 2, 1), ("go", 1, 0)])
        self.assertEqual(lonely.least().states, (("go", 1, 0),))

    def test_another_order(self):
        draws = Draws(9)
        for _ in range(40):
            searcher = few_kinds(draws, "ab", 2, 6)
            names = [0, 1, 2, 3, 4, 5]
            for state in range(5, 1, -1):
                other = 1 + draws.below(state)
                names[state], names[other] = names[other], names[state]
            states = [None] * 6
            for state, tree in enumerate(searcher.states):
                states[names[state]] = moved(tree, names)
            self.assertTrue(self.check(Searcher("ab", 2, states)) == searcher.least())

    def test_the_coarsest_way(self):
        ring = Searcher("ab", 1, [("go", 1, (state + 1) % 64) for state in range(64)])
        self.assertEqual(ring.least().states, (("go", 1, 0),))
        chain = [("go", 1, state + 1) for state in range(63)] + [("go", 2, 63)]
        self.assertEqual(Searcher("ab", 1, chain).least().states, tuple(chain))
        # Equal ways of reading do not make trees equal.
        read = Searcher("ab", 1, [("read", 0, (("go", 1, 1), ("go", 1, 1))), ("go", 1, 0)])
        self.assertEqual(read.least().states, read.states)

    def test_the_numbers_by_hand(self):
        states = [("read", 0, (("go", 1, 3), ("tell", 0, ("go", 1, 1)))), ("go", 1, 4), ("go", 2, 2), ("go", 2, 0),
                  ("go", 2, 3)]
        self.assertEqual(Searcher("ab", 1, states).least().states, (
            ("read", 0, (("go", 1, 1), ("tell", 0, ("go", 1, 2)))), ("go", 2, 0), ("go", 1, 3), ("go", 2, 1)))

    def test_the_searcher_is_not_changed(self):
        searcher = Searcher("ab", 1, [("go", 1, 1), ("go", 1, 0)])
        self.assertEqual(len(searcher.least().states), 1)
        self.assertEqual(searcher.states, (("go", 1, 1), ("go", 1, 0)))


class Examples(Base):

    def test_of_the_document(self):
        one = Searcher.read(ONE)
        self.assertEqual([one.states[0][:2], one.nodes, one.written().split("\n")[0], one.least() == one],
                         [("read", 1), 6, "ab 2", True])


if __name__ == "__main__":
    unittest.main()
