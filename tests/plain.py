"""What several tests share: plain searches, values of any kind, and values that are drawn."""

import itertools

from wordskips.errors import BadLetters
from wordskips.makers import made


class Draws:
    """Numbers that look drawn, the same ones in every run."""

    def __init__(self, seed):
        self.now = seed

    def below(self, bound):
        self.now = (self.now * 6364136223846793005 + 1442695040888963407) % 2 ** 64
        return (self.now >> 33) % bound

    def one_of(self, things):
        return things[self.below(len(things))]

    def text(self, letters, size):
        return "".join(self.one_of(letters) for _ in range(size))


def any_values():
    """Values of all kinds that may be passed where an error is described; none is letters, a word or a number."""
    searcher = made("ab", "ab", "plain")
    deep = None
    for _ in range(9):
        deep = [deep]
    return [
        None, True, False, [], (), {}, [None], (None,), [[]], {"a": 1}, {"ab": ["ab"]}, {1: (2, [3])}, [["ab"]],
        (("ab",), "ab"), [True, False], ["a", 1, None, ("b", {})], deep, searcher, [searcher], (searcher, [searcher]),
        {"ab": searcher}, BadLetters("x"), [BadLetters(None)], "", "-", "A", "ab ", "a\n", "\u00e4b", "\u0661",
        -1, 10 ** 39, -(10 ** 39),
    ]


def texts_up_to(letters, size):
    for many in range(size + 1):
        for signs in itertools.product(letters, repeat=many):
            yield "".join(signs)


def places_of(word, text):
    return [place for place in range(len(text)) if text.startswith(word, place)]


def search(searcher, text):
    """The windows (place, state, reads) and the told pairs of a search, as the document tells it."""
    windows, told = [], []
    place, state = 0, 0
    while place + searcher.width <= len(text):
        reads = []
        windows.append((place, state, reads))
        tree = searcher.states[state]
        while tree[0] != "go":
            if tree[0] == "tell":
                told.append((place, tree[1]))
                tree = tree[2]
            else:
                if place + tree[1] >= len(text):
                    return windows, told
                letter = text[place + tree[1]]
                reads.append((tree[1], letter))
                tree = tree[2][searcher.letters.index(letter)]
        place += tree[1]
        state = tree[2]
    return windows, told


def parts_of(tree):
    """All trees of a tree, each one ahead of those within it, in order."""
    if tree[0] == "go":
        return [tree]
    inner = [tree[2]] if tree[0] == "tell" else tree[2]
    return [tree] + [part for branch in inner for part in parts_of(branch)]


def drawn_tree(draws, letters, width, states, depth):
    kind = draws.below(5) if depth > 1 else 0
    if kind < 2:
        return ("go", 1 + draws.below(width + 1), draws.below(states))
    if kind == 2:
        return ("tell", draws.below(3), drawn_tree(draws, letters, width, states, depth - 1))
    trees = tuple(drawn_tree(draws, letters, width, states, depth - 1) for _ in letters)
    return ("read", draws.below(width + 1), trees)


def caterpillar(depth, letters="ab"):
    """A tree of so many trees within one another; each read has one deep tree, the last one."""
    tree = ("go", 1, 0)
    for _ in range(depth - 1):
        tree = ("read", 0, (("go", 1, 0),) * (len(letters) - 1) + (tree,))
    return tree


def tells(depth):
    """A tree of just so many trees, all within one another."""
    tree = ("go", 1, 0)
    for _ in range(depth - 1):
        tree = ("tell", 0, tree)
    return tree
