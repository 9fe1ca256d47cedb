"""Texts that are told by rules, and searches in them."""

from wordskips.checks import are_letters, is_list, is_whole, wrong_sign
from wordskips.crossings import START, Crossings
from wordskips.errors import BadLetters, BadPlace, BadRule, NoRule, OtherLetters, Ring, TooMany

MOST_RULES = 40
MOST_COUNT = 10 ** 30
LONGEST_PART = 2000
MOST_PAIRS = 8
LONGEST_STRING = 60


class Weave:
    """A text that rules tell: the one of the root."""

    def __init__(self, letters, rules, root):
        if not are_letters(letters):
            raise BadLetters(letters)
        many = len(rules) if isinstance(rules, dict) else 0
        if not 1 <= many <= MOST_RULES:
            raise TooMany("rules", many, MOST_RULES)
        for name in rules:
            if not _is_name(name) or not _is_rule(letters, rules, rules[name]):
                raise BadRule(name)
        for name in sorted(rules):
            if name in _within(rules, name):
                raise Ring(name)
        if not isinstance(root, str) or root not in rules:
            raise NoRule(root)
        self._rules = {name: tuple([(part, count) for part, count in rules[name]]) for name in rules}
        self._sizes = _sizes(self._rules)
        self._root = root
        self.letters = letters
        self.size = self._sizes[root]

    def letter(self, number):
        """The letter with this index."""
        if not is_whole(number, 0, self.size - 1):
            raise BadPlace(number)
        return self._cut(self._root, number, 1)

    def part(self, first, size):
        """The string of so many letters from this index on."""
        if not is_whole(size, 0, LONGEST_PART):
            raise TooMany("letters", size, LONGEST_PART)
        if not is_whole(first, 0, self.size - size):
            raise BadPlace(first)
        return self._cut(self._root, first, size)

    def _cut(self, name, first, size):
        """So many letters of a part from this index on, or those up to its end if there are fewer."""
        if name not in self._rules:
            return name[first:first + size]
        found = []
        for inner, count in self._rules[name]:
            copy = self._sizes[inner]
            while size > 0 and first < copy * count:
                letters = self._cut(inner, first % copy, size)
                found.append(letters)
                first += len(letters)
                size -= len(letters)
            first -= copy * count
        return "".join(found)


class Far:
    """A search in a text of rules: how many reads, windows and told pairs there are."""

    def __init__(self, searcher, weave):
        self._crossings = Crossings(searcher, weave._rules, weave._sizes)
        self._root = weave._root
        entry, tally = self._crossings.past(self._root, START)
        last, tells = self._crossings.at_end(entry)
        self._last = [(weave.size - searcher.width, number) for number in tells]
        self.cost = tally[0] + last[0]
        self.windows = tally[1] + last[1]
        self.told = tally[2] + last[2]

    def told_at(self, k):
        """The told pair (place, number) with this index."""
        if not is_whole(k, 0, self.told - 1):
            raise BadPlace(k)
        ahead = self.told - len(self._last)
        if k >= ahead:
            return self._last[k - ahead]
        return self._crossings.told_at(self._root, START, k)


def far(searcher, weave):
    """The search in the text of a weave; it takes few steps, however long the text is."""
    if searcher.letters != weave.letters:
        raise OtherLetters()
    return Far(searcher, weave)


def _is_name(value):
    return isinstance(value, str) and 1 <= len(value) <= 8 and all(["A" <= sign <= "Z" for sign in value])


def _is_rule(letters, rules, value):
    """Whether a value is a list of 1 to 8 pairs of a part and a count."""
    if not is_list(value) or not 1 <= len(value) <= MOST_PAIRS:
        return False
    return all([is_list(pair) and len(pair) == 2 and _is_part(letters, rules, pair[0])
                and is_whole(pair[1], 1, MOST_COUNT) for pair in value])


def _is_part(letters, rules, value):
    if not isinstance(value, str):
        return False
    if _is_name(value):
        return value in rules
    return 1 <= len(value) <= LONGEST_STRING and wrong_sign(letters, value) is None


def _within(rules, name):
    """A dict of all that stands within a name, as its keys."""
    found = {}
    waiting = [name]
    while waiting:
        outer = waiting.pop()
        for part, _ in rules[outer]:
            if part not in found:
                found[part] = True
                if part in rules:
                    waiting.append(part)
    return found


def _sizes(rules):
    """How many letters each name and each string within the rules has."""
    sizes = {part: len(part) for name in rules for part, _ in rules[name] if part not in rules}
    missing = list(rules)
    while missing:
        # No name stands within itself, so each time round there is one more of which all parts are known.
        for name in missing:
            if all([part in sizes for part, _ in rules[name]]):
                sizes[name] = sum([sizes[part] * count for part, count in rules[name]])
        missing = [name for name in missing if name not in sizes]
    return sizes
