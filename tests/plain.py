"""What several tests share: plain searches, values of any kind, and values that are drawn."""

import fractions
import itertools

from wordskips.costs import costs
from wordskips.errors import BadLetters
from wordskips.knowledge import turns
from wordskips.makers import made
from wordskips.ratios import Ratio
from wordskips.rings import best_ring
from wordskips.runs import trace
from wordskips.searchers import Searcher
from wordskips.thrift import thrift
from wordskips.verdicts import verdict
from wordskips.weaves import Weave, far

NAMES = ["A", "BB", "ZEBRA", "CAB", "EIGHTLET", "X"]
ALL_WAYS = ["borders", "strict borders", "by letters", "plain", "last letter", "letter behind", "bad letter", "good end",
            "both", "both and known", "all knowledge"]


class Draws:
    """Numbers that look drawn, the same ones in every run."""

    def __init__(self, seed):
        self.now = seed

    def below(self, bound):
        self.now = (self.now * 6364136223846793005 + 1442695040888963407) % 2 ** 64
        return (self.now >> 33) % bound

    def one_of(self, things):
        return things[self.below(len(things))]

    def text(self, letters, size):
        return "".join(self.one_of(letters) for _ in range(size))


def any_values():
    """Values of all kinds that may be passed where an error is described; none is letters, a word or a number."""
    searcher = made("ab", "ab", "plain")
    deep = None
    for _ in range(9):
        deep = [deep]
    return [
        None, True, False, [], (), {}, [None], (None,), [[]], {"a": 1}, {"ab": ["ab"]}, {1: (2, [3])}, [["ab"]],
        (("ab",), "ab"), [True, False], ["a", 1, None, ("b", {})], deep, searcher, [searcher], (searcher, [searcher]),
        {"ab": searcher}, BadLetters("x"), [BadLetters(None)], *objects(searcher), "", "-", "A", "ab ", "a\n", "\u00e4b", "\u0661",
        -1, 10 ** 39, -(10 ** 39),
    ]


def objects(searcher):
    """Objects of the package, alone and within others."""
    weave = Weave("ab", {"X": [("ab", 9)]}, "X")
    ring = best_ring([("x", 1, 1, "x")])
    turn = turns(searcher, (0, "..."))[0]
    return [Ratio(1), [Ratio(1, 2)], {"a": Ratio(0)}, weave, (weave,), {weave: [weave]}, trace(searcher, "ab"),
            far(searcher, weave), ring, [ring], turn, {turn: (turn,)}, verdict(searcher, ["ab"]), [costs(searcher)],
            thrift("ab", ["ab"])]


def texts_up_to(letters, size):
    for many in range(size + 1):
        for signs in itertools.product(letters, repeat=many):
            yield "".join(signs)


def places_of(word, text):
    return [place for place in range(len(text)) if text.startswith(word, place)]


def search(searcher, text):
    """The windows (place, state, reads) and the told pairs of a search, as the document tells it."""
    windows, told = [], []
    place, state = 0, 0
    while place + searcher.width <= len(text):
        reads = []
        windows.append((place, state, reads))
        tree = searcher.states[state]
        while tree[0] != "go":
            if tree[0] == "tell":
                told.append((place, tree[1]))
                tree = tree[2]
            else:
                if place + tree[1] >= len(text):
                    return windows, told
                letter = text[place + tree[1]]
                reads.append((tree[1], letter))
                tree = tree[2][searcher.letters.index(letter)]
        place += tree[1]
        state = tree[2]
    return windows, told


def pairs_at_windows(searcher, text):
    """The windows and told pairs of a search, as a Trace has them."""
    windows, told = search(searcher, text)
    return tuple((place, state, tuple(reads)) for place, state, reads in windows), tuple(told)


def drawn_searcher(draws):
    """A searcher of any letters and width, of trees that read places again, read the letter behind, and tell much."""
    letters = draws.one_of(["ab", "ba", "zx", "abc", "cab", "qxyz"])
    width = 1 + draws.below(8)
    states = 1 + draws.below(6)
    depth = 2 + draws.below(5)
    trees = [drawn_tree(draws, letters, width, states, depth) for _ in range(states)]
    return Searcher(letters, width, trees)


def parts_of(tree):
    """All trees of a tree, each one ahead of those within it, in order."""
    if tree[0] == "go":
        return [tree]
    inner = [tree[2]] if tree[0] == "tell" else tree[2]
    return [tree] + [part for branch in inner for part in parts_of(branch)]


def drawn_tree(draws, letters, width, states, depth):
    kind = draws.below(5) if depth > 1 else 0
    if kind < 2:
        return ("go", 1 + draws.below(width + 1), draws.below(states))
    if kind == 2:
        return ("tell", draws.below(3), drawn_tree(draws, letters, width, states, depth - 1))
    trees = tuple(drawn_tree(draws, letters, width, states, depth - 1) for _ in letters)
    return ("read", draws.below(width + 1), trees)


def caterpillar(depth, letters="ab"):
    """A tree of so many trees within one another; each read has one deep tree, the last one."""
    tree = ("go", 1, 0)
    for _ in range(depth - 1):
        tree = ("read", 0, (("go", 1, 0),) * (len(letters) - 1) + (tree,))
    return tree


def tells(depth):
    """A tree of just so many trees, all within one another."""
    tree = ("go", 1, 0)
    for _ in range(depth - 1):
        tree = ("tell", 0, tree)
    return tree


def written_out(rules, name):
    """The text of a name; its parts are those of rules, or strings."""
    return "".join([written_out(rules, part) * count if part in rules else part * count for part, count in rules[name]])


def size_of(rules, name):
    return sum([(size_of(rules, part) if part in rules else len(part)) * count for part, count in rules[name]])


def drawn_rules(draws, letters, counts, names=6):
    """Rules, the first name being the root; each name stands only within those ahead of it."""
    names = NAMES[:1 + draws.below(names)]
    rules = {}
    for at, name in enumerate(names):
        pairs = []
        for _ in range(1 + draws.below(4)):
            inner = names[at + 1:]
            part = draws.one_of(inner) if inner and draws.below(2) else draws.text(letters, 1 + draws.below(7))
            pairs.append((part, draws.one_of(counts)))
        rules[name] = pairs
    return rules


def small_rules(draws, letters):
    """Drawn rules of at most 1500 letters."""
    while True:
        rules = drawn_rules(draws, letters, [1, 1, 2, 3, 1 + draws.below(40)])
        if size_of(rules, "A") <= 1500:
            return rules


def small_searcher(draws, letters=None, width=None, depth=None):
    """A drawn searcher of small width that has not many standings."""
    letters = letters or draws.one_of(["ab", "ab", "ba", "zx", "abc", "cab"])
    width = width or 1 + draws.below(4 if len(letters) == 2 else 3)
    states = 1 + draws.below(3)
    trees = [drawn_tree(draws, letters, width, states, depth or 2 + draws.below(4)) for _ in range(states)]
    return Searcher(letters, width, trees)


def changed(draws, searcher):
    """A searcher with a part or two otherwise than in another one."""
    states = list(searcher.states)
    for _ in range(1 + draws.below(2)):
        state = draws.below(len(states))
        number = draws.below(len(parts_of(states[state])))
        states[state] = with_part(states[state], number, lambda part: other_part(draws, searcher, part))
    return Searcher(searcher.letters, searcher.width, states)


def with_part(tree, number, change):
    """The tree with its part of this number changed."""
    passed = itertools.count()

    def rebuilt(part):
        if next(passed) == number:
            return change(part)
        if part[0] == "go":
            return part
        if part[0] == "tell":
            return ("tell", part[1], rebuilt(part[2]))
        return ("read", part[1], tuple(rebuilt(branch) for branch in part[2]))
    return rebuilt(tree)


def other_part(draws, searcher, tree):
    if tree[0] == "go":
        if draws.below(3) == 0:
            return ("go", tree[1], draws.below(len(searcher.states)))
        return ("go", 1 + draws.below(searcher.width + 1), tree[2])
    if tree[0] == "tell":
        return tree[2] if draws.below(2) else ("tell", draws.below(3), tree[2])
    kind = draws.below(3)
    if kind == 0:
        return ("read", draws.below(searcher.width + 1), tree[2])
    if kind == 1:
        return ("tell", draws.below(2), tree)
    return ("read", tree[1], tree[2][1:] + tree[2][:1])


def made_ones():
    """Made searchers of small width, with their words."""
    found = []
    for letters, words in (("ab", ["a", "ab", "aa", "aba", "aab", "abab", "aaab"]), ("cab", ["b", "aa", "abc", "bab"])):
        for word in words:
            found.extend([(made(letters, word, way), [word]) for way in ALL_WAYS])
    return found


def some_words(draws, letters, width):
    """Up to three different words."""
    words = []
    for _ in range(1 + draws.below(3)):
        word = draws.text(letters, width)
        if word not in words:
            words.append(word)
    return words


def walked(searcher, state, known):
    """The turns from a standing, as (reads, tells, known, slide, standing behind); the last two are None for cut ones.

    Written anew: the tree is gone through over all windows that have the known letters; "-" stands for no letter behind.
    """
    letters, width = searcher.letters, searcher.width
    signs = [sign if sign != "." else letters for sign in known]
    if known[width] == ".":
        signs[width] = letters + "-"
    found = {}
    for window in itertools.product(*signs):
        reads, tells, tree = [], [], searcher.states[state]
        while tree[0] == "tell" or tree[0] == "read" and window[tree[1]] != "-":
            if tree[0] == "tell":
                tells.append(tree[1])
                tree = tree[2]
            else:
                reads.append((tree[1], window[tree[1]]))
                tree = tree[2][letters.index(window[tree[1]])]
        passed = dict(reads)
        now = "".join(passed.get(place, known[place]) for place in range(width + 1))
        turn = (tuple(reads), tuple(tells), now, None, None)
        if tree[0] == "go":
            turn = (*turn[:3], tree[1], (tree[2], (now[tree[1]:] + "." * (width + 1))[:width + 1]))
        # A cut turn is ahead of those that go on at the same read.
        found[turn] = [letters.index(letter) for _, letter in reads] + [-1] * (tree[0] != "go")
    return sorted(found, key=lambda turn: found[turn])


def walked_standings(searcher):
    """A dict from the standings that come up to their turns, written anew."""
    first = (0, "." * (searcher.width + 1))
    found, waiting = {}, [first]
    while waiting:
        standing = waiting.pop()
        if standing not in found:
            found[standing] = walked(searcher, *standing)
            waiting.extend([turn[4] for turn in found[standing] if turn[4]])
    return found


def cost_over(searcher, text):
    return sum(len(reads) for _, _, reads in search(searcher, text)[0])


def fraction(ratio):
    """A Ratio as a fraction of Python's own; it must be in lowest terms."""
    assert isinstance(ratio, Ratio)
    value = fractions.Fraction(ratio.number, ratio.over)
    assert (value.numerator, value.denominator) == (ratio.number, ratio.over)
    return value


def renamed_letters(searcher, letters):
    """The same searcher for other letters, one for one in their order."""
    return Searcher(letters, searcher.width, searcher.states)


def reordered(searcher, letters):
    """The same searcher with its letters in another order, and the trees in this order."""
    def turned(tree):
        if tree[0] == "go":
            return tree
        if tree[0] == "tell":
            return (tree[0], tree[1], turned(tree[2]))
        return (tree[0], tree[1], tuple(turned(tree[2][searcher.letters.index(letter)]) for letter in letters))
    return Searcher(letters, searcher.width, [turned(tree) for tree in searcher.states])


def told_twice(draws, searcher):
    """The same searcher with each state told twice; the slides go to either one of them."""
    many = len(searcher.states)

    def turned(tree):
        if tree[0] == "go":
            return ("go", tree[1], tree[2] + many * draws.below(2))
        if tree[0] == "tell":
            return (tree[0], tree[1], turned(tree[2]))
        return (tree[0], tree[1], tuple(turned(branch) for branch in tree[2]))
    return Searcher(searcher.letters, searcher.width, [turned(tree) for tree in searcher.states * 2])


def complete(letters, places, leaf):
    """A tree that reads the places in their order; leaf is the tree behind all of them, or is asked with what is read."""
    def tree(places, read):
        if not places:
            return leaf(read) if callable(leaf) else leaf
        return ("read", places[0], tuple(tree(places[1:], read + letter) for letter in letters))
    return tree(list(places), "")


def many_standings(more, core=None):
    """A searcher with 2000 standings and so many more; core is the tree of its last states, which slide by 1.

    Behind states that read the letter behind and slide to it, 14 states in turn know up to the last seven letters.
    """
    trees = [("go", 9, state + 1) for state in range(more)]
    while len(trees) < more + 40:
        trees.append(complete("ab", [8], ("go", 8, len(trees) + 1)))
    trees.append(("go", 9, len(trees) + 1))
    first = len(trees)
    for state in range(14):
        go = ("go", 1, first + (state + 1) % 14)
        trees.append(core(go) if core else complete("ab", [7], go))
    return Searcher("ab", 8, trees)
