"""Chains: where one goes from node to node by chance.

A chain is a list; for each node, told by its index, it has the list of its moves. A move is a tuple (weight, paid,
length, end): the node is left to the end with a chance of weight in the sum of the weights of all its moves; paid is
the weight times what the move costs, length by how many letters the window moves.
"""

from wordskips.ratios import Ratio


def anchors(chain):
    """For each class of nodes that is not left any more, once it is entered, the first of its nodes."""
    ahead = [_all_ahead(chain, node) for node in range(len(chain))]
    return [node for node, found in enumerate(ahead)
            if node == min(list(found)) and all([node in ahead[end] for end in found])]


def gains_and_heights(chain):
    """What a letter costs on the average from each node on, and by how much more the first letters cost: two lists.

    The gain of a node is the mean of those behind its moves, its height the mean of what is paid - gain * length +
    the height behind. That leaves the heights of the anchors free: they are 0.
    """
    size = len(chain)
    held = anchors(chain)
    rows = []
    for node, moves in enumerate(chain):
        over = sum([weight for weight, _, _, _ in moves])
        gain, height = [0 for _ in range(2 * size + 1)], [0 for _ in range(2 * size + 1)]
        gain[node] = over
        height[size + node] = over
        for weight, paid, length, end in moves:
            gain[end] -= weight
            height[node] += weight * length
            height[size + end] -= weight
            height[2 * size] += paid
        if node in held:
            # The gains of a class are equal already as those of all its other nodes are means.
            gain = [0 for _ in range(2 * size + 1)]
            gain[size + node] = 1
        rows.extend([height, gain])
    found = solved(rows)
    return found[:size], found[size:]


def solved(rows):
    """The only numbers that fulfil the equations, as Ratios.

    An equation is a list of integers: a factor for each number, and what the products sum up to.
    """
    rows = [list(row) for row in rows]
    size = len(rows)
    over = 1
    for column in range(size):
        pivot = [index for index in range(column, size) if rows[index][column] != 0][0]
        top = rows[pivot]
        rows[pivot] = rows[column]
        rows[column] = top
        for index in range(column + 1, size):
            factor = rows[index][column]
            # All are determinants of parts of the first rows, so that they are integers.
            rows[index] = [(top[column] * part - factor * head) // over for part, head in zip(rows[index], top)]
        over = top[column]
    numbers = [0 for _ in rows]
    for index in reversed(range(size)):
        row = rows[index]
        rest = sum([row[column] * numbers[column] for column in range(index + 1, size)])
        numbers[index] = (row[size] * over - rest) // row[index]
    return [Ratio(number, over) for number in numbers]


def _all_ahead(chain, first):
    """A dict of the nodes to which moves lead from the first one on, as its keys; the first one, too."""
    found = {first: True}
    waiting = [first]
    while waiting:
        for _, _, _, end in chain[waiting.pop()]:
            if end not in found:
                found[end] = True
                waiting.append(end)
    return found
