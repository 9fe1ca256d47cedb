import copy
import fractions
import time
import unittest

from tests.plain import Draws
from wordskips.ratios import Ratio
from wordskips.rings import best_ring, longest

THIRTY = 10 ** 30
NODES = [0, "x", (1, "y"), ((), "z"), -7]


def simple_ways(edges, first):
    """All ways from a node on that pass no node twice, but that they may end where they begin: lists of numbers."""
    waiting = [([], first, [first])]
    while waiting:
        way, node, passed = waiting.pop()
        yield way
        if way and node == first:
            continue
        for number, edge in enumerate(edges):
            if edge[0] == node and (edge[3] not in passed or edge[3] == first):
                waiting.append((way + [number], edge[3], passed + [edge[3]]))


def nodes_of(edges):
    return {node for edge in edges for node in (edge[0], edge[3])}


def rings_of(edges):
    return [way for node in nodes_of(edges) for way in simple_ways(edges, node) if way and edges[way[-1]][3] == node]


def ratio_of(edges, ring):
    return fractions.Fraction(sum(edges[number][1] for number in ring), sum(edges[number][2] for number in ring))


def best_of(edges):
    return max([ratio_of(edges, ring) for ring in rings_of(edges)], default=None)


def longest_of(edges, first):
    """What longest should return; no way is longer than all simple ones unless a ring has a sum above 0."""
    sums = {}
    for way in simple_ways(edges, first):
        end = edges[way[-1]][3] if way else first
        cost = sum(edges[number][1] for number in way)
        sums[end] = max(sums.get(end, cost), cost)
    for ring in rings_of(edges):
        if edges[ring[0]][0] in sums and sum(edges[number][1] for number in ring) > 0:
            return None
    return sums


def drawn_edges(draws, nodes, most, costs, lengths):
    nodes = NODES[:1 + draws.below(nodes)]
    return [(draws.one_of(nodes), draws.one_of(costs), draws.one_of(lengths), draws.one_of(nodes))
            for _ in range(draws.below(most + 1))]


def drawn_graphs(seed, many):
    draws = Draws(seed)
    costs = [list(range(-3, 4)), [-5, -2, -1], [0, 1], [-THIRTY, THIRTY + 7, 3 * THIRTY - 1, -1, 0, -2 * THIRTY],
             [-THIRTY - 1, -THIRTY, -THIRTY + 1], [0], [-1, 1, 0, -9]]
    lengths = [[1], [1, 2, 3], [1, 10 ** 20, THIRTY], [4, 6]]
    for _ in range(many):
        yield drawn_edges(draws, 5, 9, draws.one_of(costs), draws.one_of(lengths))


class BestRings(unittest.TestCase):

    def check(self, edges):
        best = best_of(edges)
        ring = best_ring(edges)
        if best is None:
            self.assertIsNone(ring)
            return None
        self.check_ring(edges, ring)
        self.assertEqual((ring.ratio.number, ring.ratio.over), (best.numerator, best.denominator))
        return ring

    def check_ring(self, edges, ring):
        """Whether it is a ring of its ratio, and the heights show that none has a greater one."""
        self.assertIsInstance(ring.numbers, tuple)
        self.assertTrue(ring.numbers)
        passed = [edges[number] for number in ring.numbers]
        for edge, after in zip(passed, passed[1:] + passed[:1]):
            self.assertEqual(edge[3], after[0])
        self.assertEqual(len({edge[0] for edge in passed}), len(passed))
        best = ratio_of(edges, ring.numbers)
        self.assertEqual((ring.ratio.number, ring.ratio.over), (best.numerator, best.denominator))
        self.assertIsInstance(ring.heights, dict)
        self.assertEqual(set(ring.heights), nodes_of(edges))
        self.assertEqual({height.__class__ for height in ring.heights.values()}, {Ratio})
        heights = {node: fractions.Fraction(height.number, height.over) for node, height in ring.heights.items()}
        for start, cost, length, end in edges:
            self.assertLessEqual(cost - best * length + heights[end], heights[start])

    def test_drawn_graphs(self):
        for edges in drawn_graphs(51, 2500):
            self.check(edges)

    def test_no_rings(self):
        self.assertIsNone(best_ring([]))
        self.assertIsNone(best_ring(()))
        self.assertIsNone(best_ring([("x", 5, 1, "y")]))
        self.assertIsNone(best_ring([("x", 5, 1, "y"), ("x", 5, 1, "z"), ("y", -5, 1, "z"), ("y", 5, 2, "z")]))

    def test_one_edge(self):
        for cost in (-THIRTY, -3, 0, 1, 7 * THIRTY):
            for length in (1, 2, 7, THIRTY):
                ring = self.check([("x", cost, length, "x")])
                self.assertEqual(ring.numbers, (0,))

    def test_edges_side_by_side(self):
        edges = [("x", 1, 1, "y"), ("x", 3, 2, "y"), ("y", 1, 1, "x"), ("y", 2, 5, "x"), ("x", 3, 2, "y")]
        self.assertEqual(str(self.check(edges).ratio), "4/3")

    def test_rings_far_from_one_another(self):
        edges = [("a", 1, 1, "a"), ("b", 9, 4, "c"), ("c", 0, 1, "b"), ("d", 100, 1, "a"), ("c", 100, 1, "e")]
        self.assertEqual(str(self.check(edges).ratio), "9/5")
        self.assertEqual(sorted(best_ring(edges).numbers), [1, 2])

    def test_nearly_equal_rings(self):
        edges = [("x", THIRTY, THIRTY - 1, "x"), ("x", THIRTY - 1, THIRTY - 2, "x"), ("y", THIRTY + 1, THIRTY, "y")]
        self.assertEqual(self.check(edges).numbers, (1,))

    def test_nodes_of_all_kinds(self):
        edges = [(1, 2, 1, "1"), ("1", 3, 1, (1,)), ((1,), 4, 1, ("1", (1, "x"))), (("1", (1, "x")), -8, 1, 1)]
        self.assertEqual(str(self.check(edges).ratio), "1/4")
        self.assertEqual(len(best_ring(edges).numbers), 4)

    def test_lists_and_tuples_and_what_is_not_changed(self):
        for edges in drawn_graphs(52, 100):
            kept = copy.deepcopy(edges)
            one, other = best_ring(edges), best_ring(tuple(edges))
            self.assertEqual(edges, kept)
            if one is None:
                self.assertIsNone(other)
                continue
            self.assertEqual((one.numbers, one.ratio, one.heights), (other.numbers, other.ratio, other.heights))
            one.heights.clear()
            self.assertEqual(best_ring(edges).heights, other.heights)

    def test_large_graphs(self):
        draws = Draws(53)
        begun = time.monotonic()
        many = 800
        for costs, step in ((20, many), (2 * THIRTY, 5), (3, 2)):
            edges = []
            for number in range(4 * many):
                node = number % many
                end = (node + 1 + draws.below(step)) % many
                edges.append((node, draws.below(costs) - costs // 2, 1 + draws.below(9), end))
            self.check_ring(edges, best_ring(edges))
        chain = [(node, 1, 1, node + 1) for node in range(2000)]
        self.assertIsNone(best_ring(chain))
        self.assertIsNone(best_ring(chain[::-1]))
        self.check_ring(chain + [(2000, -5, 1, 0)], best_ring(chain + [(2000, -5, 1, 0)]))
        self.assertLess(time.monotonic() - begun, 60)


class Longest(unittest.TestCase):

    def test_drawn_graphs(self):
        some = 0
        for edges in drawn_graphs(54, 2500):
            for first in NODES:
                found = longest(edges, first)
                self.assertEqual(found, longest_of(edges, first))
                some += found is not None and len(found) > 2
        self.assertGreater(some, 1000)

    def test_no_edges(self):
        for first in NODES:
            self.assertEqual(longest([], first), {first: 0})
            self.assertEqual(longest((), first), {first: 0})
        self.assertEqual(longest([("x", 5, 1, "y"), ("y", 5, 1, "x")], "z"), {"z": 0})

    def test_rings(self):
        self.assertEqual(longest([("x", 0, 1, "x"), ("x", -1, 1, "x")], "x"), {"x": 0})
        self.assertIsNone(longest([("x", 1, 1, "x")], "x"))
        self.assertIsNone(longest([("x", -9, 1, "y"), ("y", 1, 1, "y")], "x"))
        self.assertEqual(longest([("x", -9, 1, "y"), ("y", 1, 1, "y")], "z"), {"z": 0})
        self.assertEqual(longest([("y", 1, 1, "y"), ("y", 9, 1, "x"), ("x", -2, 1, "z")], "x"), {"x": 0, "z": -2})
        self.assertEqual(longest([("x", 9, 1, "y"), ("y", -9, 1, "x")], "y"), {"y": 0, "x": -9})
        self.assertIsNone(longest([("x", 9, 1, "y"), ("y", -8, 1, "x")], "y"))

    def test_a_ring_of_sum_0_ahead_of_others(self):
        edges = [("x", 4, 1, "y"), ("y", -4, 1, "x"), ("y", THIRTY, 1, "z"), ("z", -THIRTY, 1, "x")]
        self.assertIsNone(longest(edges, "x"))
        self.assertEqual(longest(edges[:3], "x"), {"x": 0, "y": 4, "z": THIRTY + 4})

    def test_what_is_not_changed(self):
        edges = [("x", 4, 1, "y"), ("y", -4, 1, "x")]
        kept = copy.deepcopy(edges)
        found = longest(edges, "x")
        found["x"] = 5
        self.assertEqual(longest(tuple(edges), "x"), {"x": 0, "y": 4})
        self.assertEqual(edges, kept)

    def test_long_chains(self):
        chain = [(node, 1 - node // 1500 * 3, 1, node + 1) for node in range(2000)]
        for edges in (chain, chain[::-1], chain + [(2000, -1501, 1, 0)]):
            found = longest(edges, 0)
            self.assertEqual((found[1500], found[2000], len(found)), (1500, 500, 2001))
        self.assertIsNone(longest(chain + [(2000, -499, 1, 0)], 0))
        self.assertEqual(longest(chain + [(2000, -500, 1, 0)], 0)[2000], 500)


class Examples(unittest.TestCase):

    def test_of_the_document(self):
        edges = [("x", 2, 1, "y"), ("y", 0, 2, "x"), ("y", 1, 2, "y")]
        ring = best_ring(edges)
        self.assertEqual([str(ring.ratio), sorted(ring.numbers), longest(edges[:1], "x"), longest(edges, "x")],
                         ["2/3", [0, 1], {"x": 0, "y": 2}, None])


if __name__ == "__main__":
    unittest.main()
