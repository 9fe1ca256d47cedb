"""Ways from node to node, and the texts over which a search goes them.

A step from a node is a tuple (cost, length, end, signs): what it costs, by how many letters the window moves, the node
to which it leads, and what is known of the letters from the window on before it moves. An end of a node is a pair
(cost, signs): the same where the text ends with the window. Steps and ends are kept in dicts from the nodes.
"""

from heapq import heappop, heappush

from wordskips.errors import TooMany
from wordskips.rings import best_ring, longest

MOST_NODES = 2000
END = "end"


def explored(first, steps_from, what):
    """A dict from the nodes that come up, ascending, to the lists of the steps that steps_from tells of each."""
    steps = {}
    met = {first: True}
    waiting = [first]
    while waiting:
        node = waiting.pop()
        found = steps_from(node)
        steps[node] = found
        for _, _, end, _ in found:
            if end not in met:
                met[end] = True
                waiting.append(end)
        if len(met) > MOST_NODES:
            raise TooMany(what, MOST_NODES + 1, MOST_NODES)
    return {node: steps[node] for node in sorted(list(steps))}


def dearest(steps):
    """Of steps of one length to one node, just the first one of the greatest cost."""
    best = {}
    for step in steps:
        cost, length, end, _ = step
        if (length, end) not in best or cost > best[(length, end)][0]:
            best[(length, end)] = step
    return list(best.values())


def nearest(steps, first):
    """The nearest ways from the first node on: a dict from the nodes to triples.

    A triple has the place at which such a way comes to the node, and the node and the signs of the last step of it;
    None and no signs for the first node.
    """
    entered = {first: (0, None, "")}
    queue = [(0, first)]
    while queue:
        place, node = heappop(queue)
        if place > entered[node][0]:
            continue
        for _, length, end, signs in steps[node]:
            if end not in entered or place + length < entered[end][0]:
                entered[end] = (place + length, node, signs)
                heappush(queue, (place + length, end))
    return entered


def pieces_to(entered, node):
    """What is known along the way to a node that nearest found: a list of pairs (place in the text, signs)."""
    pieces = []
    while entered[node][1] is not None:
        _, before, signs = entered[node]
        pieces.append((entered[before][0], signs))
        node = before
    return pieces


def spelled(letters, size, pieces):
    """A text of this size in which the pieces stand; where nothing is known, any letter will do."""
    text = [letters[0] for _ in range(size)]
    for place, signs in pieces:
        for at, sign in enumerate(signs[:size - place]):
            if sign != ".":
                text[place + at] = sign
    return "".join(text)


def best_round(letters, steps, first):
    """The best ring of the steps, a text that leads to it, and the text over which it goes around once.

    What is known at its node is the same each time around, so each round reads the same letters.
    """
    taken = [(node, step) for node in steps for step in steps[node]]
    ring = best_ring([(node, cost, length, end) for node, (cost, length, end, _) in taken])
    node, _ = taken[ring.numbers[0]]
    entered = nearest(steps, first)
    begin = entered[node][0]
    pieces = pieces_to(entered, node)
    place = begin
    for number in ring.numbers:
        _, (_, length, _, signs) = taken[number]
        pieces.append((place, signs))
        place += length
    text = spelled(letters, place, pieces)
    return ring, text[:begin], text[begin:]


def with_ends(steps, ends, width):
    """The steps, and those with which the text ends: they lead to END, and all letters that are left are theirs."""
    found = {}
    for node in steps:
        cost, signs = ends[node]
        # Behind a step of several letters the text may end one letter behind the window: no other one lies within it.
        shut = [(cost, width + 1, END, signs) for cost, length, _, signs in steps[node] if length > 1]
        found[node] = [(cost, width, END, signs), *shut, *steps[node]]
    return found


def worths(steps, scale, charge):
    """A dict from the nodes to the greatest sum of scale * cost - charge * length of a way to END.

    None if there is no greatest one.
    """
    return longest([(end, scale * cost - charge * length, 1, node)
                    for node in steps for cost, length, end, _ in steps[node]], END)


def worthiest(letters, steps, worth, scale, charge, first):
    """The text of a way from the first node to END with the sum that worths tells; charge is above 0."""
    pieces = []
    node, place = first, 0
    while node != END:
        best = [(length, end, signs) for cost, length, end, signs in steps[node]
                if scale * cost - charge * length + worth[end] == worth[node]]
        length, node, signs = best[0]
        pieces.append((place, signs))
        place += length
    return spelled(letters, place, pieces)
