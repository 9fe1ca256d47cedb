"""What several tests share: plain searches, values of any kind, and values that are drawn."""

import itertools

from wordskips.errors import BadLetters
from wordskips.makers import made
from wordskips.ratios import Ratio
from wordskips.rings import best_ring
from wordskips.runs import trace
from wordskips.searchers import Searcher
from wordskips.weaves import Weave, far

NAMES = ["A", "BB", "ZEBRA", "CAB", "EIGHTLET", "X"]


class Draws:
    """Numbers that look drawn, the same ones in every run."""

    def __init__(self, seed):
        self.now = seed

    def below(self, bound):
        self.now = (self.now * 6364136223846793005 + 1442695040888963407) % 2 ** 64
        return (self.now >> 33) % bound

    def one_of(self, things):
        return things[self.below(len(things))]

    def text(self, letters, size):
        return "".join(self.one_of(letters) for _ in range(size))


def any_values():
    """Values of all kinds that may be passed where an error is described; none is letters, a word or a number."""
    searcher = made("ab", "ab", "plain")
    deep = None
    for _ in range(9):
        deep = [deep]
    return [
        None, True, False, [], (), {}, [None], (None,), [[]], {"a": 1}, {"ab": ["ab"]}, {1: (2, [3])}, [["ab"]],
        (("ab",), "ab"), [True, False], ["a", 1, None, ("b", {})], deep, searcher, [searcher], (searcher, [searcher]),
        {"ab": searcher}, BadLetters("x"), [BadLetters(None)], *objects(searcher), "", "-", "A", "ab ", "a\n", "\u00e4b", "\u0661",
        -1, 10 ** 39, -(10 ** 39),
    ]


def objects(searcher):
    """Objects of the package, alone and within others."""
    weave = Weave("ab", {"X": [("ab", 9)]}, "X")
    ring = best_ring([("x", 1, 1, "x")])
    return [Ratio(1), [Ratio(1, 2)], {"a": Ratio(0)}, weave, (weave,), {weave: [weave]}, trace(searcher, "ab"),
            far(searcher, weave), ring, [ring]]


def texts_up_to(letters, size):
    for many in range(size + 1):
        for signs in itertools.product(letters, repeat=many):
            yield "".join(signs)


def places_of(word, text):
    return [place for place in range(len(text)) if text.startswith(word, place)]


def search(searcher, text):
    """The windows (place, state, reads) and the told pairs of a search, as the document tells it."""
    windows, told = [], []
    place, state = 0, 0
    while place + searcher.width <= len(text):
        reads = []
        windows.append((place, state, reads))
        tree = searcher.states[state]
        while tree[0] != "go":
            if tree[0] == "tell":
                told.append((place, tree[1]))
                tree = tree[2]
            else:
                if place + tree[1] >= len(text):
                    return windows, told
                letter = text[place + tree[1]]
                reads.append((tree[1], letter))
                tree = tree[2][searcher.letters.index(letter)]
        place += tree[1]
        state = tree[2]
    return windows, told


def pairs_at_windows(searcher, text):
    """The windows and told pairs of a search, as a Trace has them."""
    windows, told = search(searcher, text)
    return tuple((place, state, tuple(reads)) for place, state, reads in windows), tuple(told)


def drawn_searcher(draws):
    """A searcher of any letters and width, of trees that read places again, read the letter behind, and tell much."""
    letters = draws.one_of(["ab", "ba", "zx", "abc", "cab", "qxyz"])
    width = 1 + draws.below(8)
    states = 1 + draws.below(6)
    depth = 2 + draws.below(5)
    trees = [drawn_tree(draws, letters, width, states, depth) for _ in range(states)]
    return Searcher(letters, width, trees)


def parts_of(tree):
    """All trees of a tree, each one ahead of those within it, in order."""
    if tree[0] == "go":
        return [tree]
    inner = [tree[2]] if tree[0] == "tell" else tree[2]
    return [tree] + [part for branch in inner for part in parts_of(branch)]


def drawn_tree(draws, letters, width, states, depth):
    kind = draws.below(5) if depth > 1 else 0
    if kind < 2:
        return ("go", 1 + draws.below(width + 1), draws.below(states))
    if kind == 2:
        return ("tell", draws.below(3), drawn_tree(draws, letters, width, states, depth - 1))
    trees = tuple(drawn_tree(draws, letters, width, states, depth - 1) for _ in letters)
    return ("read", draws.below(width + 1), trees)


def caterpillar(depth, letters="ab"):
    """A tree of so many trees within one another; each read has one deep tree, the last one."""
    tree = ("go", 1, 0)
    for _ in range(depth - 1):
        tree = ("read", 0, (("go", 1, 0),) * (len(letters) - 1) + (tree,))
    return tree


def tells(depth):
    """A tree of just so many trees, all within one another."""
    tree = ("go", 1, 0)
    for _ in range(depth - 1):
        tree = ("tell", 0, tree)
    return tree


def written_out(rules, name):
    """The text of a name; its parts are those of rules, or strings."""
    return "".join([written_out(rules, part) * count if part in rules else part * count for part, count in rules[name]])


def size_of(rules, name):
    return sum([(size_of(rules, part) if part in rules else len(part)) * count for part, count in rules[name]])


def drawn_rules(draws, letters, counts, names=6):
    """Rules, the first name being the root; each name stands only within those ahead of it."""
    names = NAMES[:1 + draws.below(names)]
    rules = {}
    for at, name in enumerate(names):
        pairs = []
        for _ in range(1 + draws.below(4)):
            inner = names[at + 1:]
            part = draws.one_of(inner) if inner and draws.below(2) else draws.text(letters, 1 + draws.below(7))
            pairs.append((part, draws.one_of(counts)))
        rules[name] = pairs
    return rules


def small_rules(draws, letters):
    """Drawn rules of at most 1500 letters."""
    while True:
        rules = drawn_rules(draws, letters, [1, 1, 2, 3, 1 + draws.below(40)])
        if size_of(rules, "A") <= 1500:
            return rules
