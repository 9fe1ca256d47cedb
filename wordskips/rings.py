"""Rings in graphs: the one of the greatest ratio, and longest ways."""

from wordskips.ratios import Ratio


class BestRing:
    """A ring of the greatest ratio: the indexes of its edges, and heights that show that no ring has a greater one."""

    def __init__(self, ratio, numbers, heights):
        self.ratio = ratio
        self.numbers = numbers
        self.heights = heights


def best_ring(edges):
    """A ring with the greatest (sum of costs) / (sum of lengths), None if there is no ring."""
    if len(edges) == 0:
        return None
    places = _places([node for edge in edges for node in (edge[0], edge[3])])
    # All rings are above this ratio, so that any one is found first.
    ratio = Ratio(min([cost // length for _, cost, length, _ in edges]) - 1)
    best = None
    while True:
        links = [(places[start], cost * ratio.over - ratio.number * length, places[end])
                 for start, cost, length, end in edges]
        values, rings = _settled(links, [None for _ in places])
        if not rings:
            break
        for ring in rings:
            more = _ring_ratio(edges, ring)
            if ratio.is_less(more):
                ratio, best = more, ring
    if best is None:
        return None
    heights = {node: Ratio(values[places[node]], ratio.over) for node in places}
    return BestRing(ratio, tuple(best), heights)


def longest(edges, first):
    """For each node to which ways from the first one lead, the greatest sum of costs of one.

    None if there is no greatest one, as a ring to which ways lead has a sum above 0.
    """
    places = {first: 0}
    entered = [None]
    met = [first]
    leaving = _leaving(edges)
    while met:
        node = met.pop()
        for number in leaving.get(node, []):
            end = edges[number][3]
            if end not in places:
                places[end] = len(places)
                entered.append(number)
                met.append(end)
    kept = [number for number, edge in enumerate(edges) if edge[0] in places]
    links = [(places[edges[number][3]], edges[number][1], places[edges[number][0]]) for number in kept]
    numbers = {number: index for index, number in enumerate(kept)}
    choices = [None if number is None else numbers[number] for number in entered]
    values, rings = _settled(links, choices)
    if rings:
        return None
    return {node: values[places[node]] for node in places}


def _places(nodes):
    """A dict from the nodes to their places among those met."""
    places = {}
    for node in nodes:
        if node not in places:
            places[node] = len(places)
    return places


def _leaving(edges):
    """A dict from nodes to the numbers of the edges that begin there."""
    leaving = {}
    for number, edge in enumerate(edges):
        leaving.setdefault(edge[0], []).append(number)
    return leaving


def _ring_ratio(edges, ring):
    return Ratio(sum([edges[number][1] for number in ring]), sum([edges[number][2] for number in ring]))


def _settled(links, choices):
    """The values of the nodes that no link betters, and []; or None and rings of links, each with a sum above 0.

    A link is a triple (node, weight, ahead): the value of the node is the weight more than that of the node ahead. A
    node without a choice has the value 0, the others take the link of their choice. Choices are bettered until none
    can be: choices that have become a ring are those that were better at least once around, so its sum is above 0.
    """
    choices = list(choices)
    rings = []
    while not rings:
        values = _values(links, choices)
        best = list(values)
        for number, (node, weight, ahead) in enumerate(links):
            if weight + values[ahead] > best[node]:
                best[node] = weight + values[ahead]
                choices[node] = number
        if best == values:
            return values, []
        rings = _rings(links, choices)
    return None, rings


def _values(links, choices):
    """The values of all nodes by their choices, which are no ring."""
    values = [0 if number is None else None for number in choices]
    for first in range(len(choices)):
        chain = []
        node = first
        while values[node] is None:
            chain.append(node)
            node = links[choices[node]][2]
        for passed in reversed(chain):
            _, weight, ahead = links[choices[passed]]
            values[passed] = weight + values[ahead]
    return values


def _rings(links, choices):
    """The rings of the choices: lists of the numbers of links, in their order."""
    walks = [None for _ in choices]
    rings = []
    for first in range(len(choices)):
        node = first
        while choices[node] is not None and walks[node] is None:
            walks[node] = first
            node = links[choices[node]][2]
        # The walk ended at a node of its own, so it has gone around.
        if walks[node] == first:
            rings.append(_ring_from(links, choices, node))
    return rings


def _ring_from(links, choices, node):
    ring = [choices[node]]
    while links[ring[-1]][2] != node:
        ring.append(choices[links[ring[-1]][2]])
    return ring
