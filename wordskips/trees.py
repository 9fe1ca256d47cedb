"""Trees of searchers: their parts, what is wrong in them, and their texts."""

from wordskips.checks import is_list, is_whole

DEEPEST = 40


def first_wrong(tree, letters, width, states):
    """The number of the first wrong part of any value as a tree, None if all of it is right.

    A searcher of these letters, this width and so many states is what the tree is for.
    """
    waiting = [(tree, 1)]
    number = 0
    while waiting:
        part, depth = waiting.pop()
        # Deeper parts are not looked at, so that no value, however deep, makes this long.
        if depth > DEEPEST or not _is_part(part, letters, width, states):
            return number
        waiting.extend([(inner, depth + 1) for inner in reversed(_within(part))])
        number += 1
    return None


def all_parts(tree):
    """All trees of a right tree, each one ahead of those within it, in order."""
    waiting = [tree]
    found = []
    while waiting:
        part = waiting.pop()
        found.append(part)
        waiting.extend([inner for inner in reversed(_within(part))])
    return found


def renamed(tree, names):
    """A right tree, as tuples, with names[state] instead of each state."""
    head, number, rest = tree
    if head == "go":
        return (head, number, names[rest])
    if head == "tell":
        return (head, number, renamed(rest, names))
    return (head, number, tuple([renamed(inner, names) for inner in rest]))


def followed(tree, letters, signs):
    """What a right tree of these letters does over signs of a text: its reads, its tells, and the go at its end.

    The signs are those of the window, and the one behind it unless the text ends there. Where that one is to be read
    and is not there, the search ends: the go is None.
    """
    reads = []
    tells = []
    while tree[0] != "go":
        head, number, rest = tree
        if head == "tell":
            tells.append(number)
            tree = rest
        elif number < len(signs):
            reads.append((number, signs[number]))
            tree = rest[letters.index(signs[number])]
        else:
            return tuple(reads), tuple(tells), None
    return tuple(reads), tuple(tells), tree


def tree_text(letters, tree):
    """The text of a right tree."""
    head, number, rest = tree
    if head == "go":
        return f"go {number} {rest}"
    if head == "tell":
        return f"tell {number} {tree_text(letters, rest)}"
    branches = [f"{letter}: {tree_text(letters, inner)}" for letter, inner in zip(letters, rest)]
    inside = ", ".join(branches)
    return f"read {number} [{inside}]"


def rough_tree(letters, line):
    """The tree that a line tells, if it is the text of one; otherwise it may be any value.

    Signs between words are passed over: whoever asks compares the text of the tree with the line.
    """
    words = [word.strip("[],:") for word in line.split(" ")]
    words.reverse()
    return _taken_tree(letters, words, 1)


def _is_part(part, letters, width, states):
    """Whether a part of a tree is as described, whatever stands for the trees within it."""
    if not is_list(part) or len(part) != 3:
        return False
    head, number, rest = part
    if head == "read":
        return is_whole(number, 0, width) and is_list(rest) and len(rest) == len(letters)
    if head == "tell":
        return is_whole(number, 0, 2)
    if head == "go":
        return is_whole(number, 1, width + 1) and is_whole(rest, 0, states - 1)
    return False


def _within(part):
    """The list of the trees right within a part."""
    if part[0] == "read":
        return list(part[2])
    if part[0] == "tell":
        return [part[2]]
    return []


def _taken_tree(letters, words, depth):
    """The tree that the words tell, last word first; they are taken away. None stands for what is no tree."""
    head = _taken(words)
    if depth > DEEPEST:
        return None
    if head == "go":
        slide = _taken_number(words)
        return ("go", slide, _taken_number(words))
    if head == "tell":
        number = _taken_number(words)
        return ("tell", number, _taken_tree(letters, words, depth + 1))
    if head == "read":
        place = _taken_number(words)
        return ("read", place, _taken_branches(letters, words, depth + 1))
    return None


def _taken_branches(letters, words, depth):
    trees = []
    for _ in letters:
        _taken(words)
        trees.append(_taken_tree(letters, words, depth))
    return tuple(trees)


def _taken(words):
    """The next word, taken away; an empty one behind the last one."""
    return words.pop() if words else ""


def _taken_number(words):
    """The next word as a number; -1, which is out of all bounds, if it is none of one or two digits."""
    word = _taken(words)
    return int(word) if word.isdecimal() and len(word) <= 2 else -1
