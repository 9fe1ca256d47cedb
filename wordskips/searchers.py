"""Searchers: states with trees of reads, and their texts."""

from wordskips.checks import are_letters, is_list, is_whole
from wordskips.errors import BadLetters, BadLine, BadTree, BadWidth, TooMany
from wordskips.trees import all_parts, first_wrong, renamed, rough_tree, tree_text

MOST_WIDTH = 8
MOST_STATES = 64
MOST_NODES = 3000


class Searcher:
    """States with a tree each, by which a window slides over a text."""

    def __init__(self, letters, width, states):
        if not are_letters(letters):
            raise BadLetters(letters)
        if not is_whole(width, 1, MOST_WIDTH):
            raise BadWidth(width)
        many = len(states) if is_list(states) else 0
        if not 1 <= many <= MOST_STATES:
            raise TooMany("states", many, MOST_STATES)
        for state, tree in enumerate(states):
            node = first_wrong(tree, letters, width, many)
            if node is not None:
                raise BadTree(state, node)
        nodes = sum([len(all_parts(tree)) for tree in states])
        if nodes > MOST_NODES:
            raise TooMany("nodes", nodes, MOST_NODES)
        same = list(range(many))
        self.letters = letters
        self.width = width
        self.states = tuple([renamed(tree, same) for tree in states])
        self.nodes = nodes

    def __eq__(self, other):
        return (isinstance(other, Searcher) and self.letters == other.letters
                and self.width == other.width and self.states == other.states)

    def least(self):
        """The searcher in one form: states that do the same are one, numbered as they are met."""
        classes = _classes(self.letters, self.states)
        order = _met(self.states, classes)
        numbers = {classes[state]: number for number, state in enumerate(order)}
        # States that nothing leads to have no number; no tree that is kept asks for theirs.
        names = [numbers.get(place, 0) for place in classes]
        return Searcher(self.letters, self.width, [renamed(self.states[state], names) for state in order])

    def written(self):
        """The text of the searcher, which Searcher.read reads."""
        lines = [f"{self.letters} {self.width}"]
        lines.extend([tree_text(self.letters, tree) for tree in self.states])
        return "\n".join(lines)

    @classmethod
    def read(cls, text):
        """The searcher with this text."""
        if not isinstance(text, str):
            raise BadLine(0)
        head, *lines = text.split("\n")
        letters, _, digit = head.partition(" ")
        if not are_letters(letters) or not _is_width(digit):
            raise BadLine(0)
        width = int(digit)
        if len(lines) > MOST_STATES:
            raise TooMany("states", len(lines), MOST_STATES)
        if len(lines) == 0:
            raise BadLine(1)
        trees = []
        for number, line in enumerate(lines):
            tree = rough_tree(letters, line)
            if first_wrong(tree, letters, width, len(lines)) is not None or tree_text(letters, tree) != line:
                raise BadLine(number + 1)
            trees.append(tree)
        return cls(letters, width, trees)


def _is_width(text):
    return len(text) == 1 and "1" <= text <= str(MOST_WIDTH)


def _classes(letters, states):
    """For each state the number of its class: those that are one, the coarsest way."""
    classes = [0 for _ in states]
    while True:
        # Texts are compared, as they tell trees apart and are plain keys.
        finer = _numbered([tree_text(letters, renamed(tree, classes)) for tree in states])
        if max(finer) == max(classes):
            return finer
        classes = finer


def _numbered(texts):
    """For each text the number of the first one that equals it, counted without repeats."""
    numbers = {}
    for text in texts:
        if text not in numbers:
            numbers[text] = len(numbers)
    return [numbers[text] for text in texts]


def _met(states, classes):
    """One state of each class to which state 0 leads, in the order in which the classes are met."""
    order = [0]
    seen = {classes[0]: True}
    done = 0
    while done < len(order):
        for part in all_parts(states[order[done]]):
            if part[0] == "go" and classes[part[2]] not in seen:
                seen[classes[part[2]]] = True
                order.append(part[2])
        done += 1
    return order
