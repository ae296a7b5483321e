"""Point [157]: rows of nodes and their loads, in order."""

import itertools
import unittest

from otherfirst.errors import InvalidIndex, InvalidLoad, InvalidNodes
from otherfirst.heights import count_row_loads, row_index, row_load, row_net
from otherfirst.nets import Net
from tests import judge
from tests.helpers import LONG, Case, any_values, same

NO_NODES = [None, True, False, 0, 25, -1, LONG, "4", [4], (4,), {}, 4.0]
# By the known rule of these numbers: (k + 2) M(k) = (2k + 1) M(k - 1) + (3k - 3) M(k - 2).
KNOWN = [1, 1]
for k in range(2, 25):
    KNOWN.append(((2 * k + 1) * KNOWN[-1] + (3 * k - 3) * KNOWN[-2]) // (k + 2))


def loads_of(nodes):
    """All loads of a row of nodes that can be done from fresh lasts, ascending, by a search."""
    net = row_net(nodes)
    loads = itertools.product(range(4), repeat=nodes - 1)
    return [load for load in loads if judge.done(net, load, (None,) * nodes)]


class RowNetTest(Case):
    def test_row_net(self):
        for nodes in range(1, 25):
            net = row_net(nodes)
            self.agree([type(net), net.nodes, len(net)], [Net, nodes, nodes - 1])
            self.agree(net.tasks, tuple(((node, True), (node + 1, True)) for node in range(nodes - 1)))
        self.agree([row_net(nodes=4).line(), row_net(1).line()], ['4: 0!1! 1!2! 2!3!', '1:'])


class LoadsTest(Case):
    def test_a_search_of_all_loads_agrees(self):
        for nodes in range(1, 7):
            loads = loads_of(nodes)
            self.agree(count_row_loads(nodes), len(loads))
            self.agree([row_load(nodes, index) for index in range(len(loads))], loads)
            self.agree([row_index(nodes, load) for load in loads], list(range(len(loads))))
            for load in itertools.product(range(4), repeat=nodes - 1):
                if load not in loads:
                    self.refuses(InvalidLoad, {"given": load}, row_index, nodes, load)

    def test_many_nodes(self):
        for nodes in range(1, 25):
            count = count_row_loads(nodes)
            self.agree(count, KNOWN[nodes])
            steps = [0, 1, count // 3, count // 2, count - 2, count - 1]
            loads = [row_load(nodes, index) for index in sorted(set(steps)) if 0 <= index < count]
            self.agree(loads, sorted(loads))
            for load in loads:
                self.agree(row_load(nodes, row_index(nodes, load)), load)
                self.agree(judge.often(row_net(nodes), load, [None] * nodes), [])
            self.refuses(InvalidIndex, {"given": count}, row_load, nodes, count)
            self.agree([row_load(nodes, 0), row_index(nodes, [0] * (nodes - 1))], [(0,) * (nodes - 1), 0])
        self.agree(count_row_loads(nodes=24), 3192727797)
        self.agree(row_load(24, 3192727796), tuple(min(node + 1, 23 - node) for node in range(23)))

    def test_row_load_and_row_index(self):
        self.agree([count_row_loads(4), row_load(nodes=4, index=8), row_index(nodes=4, load=[1, 1, 0])], [9, (1, 2, 1), 6])
        self.agree([count_row_loads(1), row_load(1, 0), row_index(1, []), row_index(1, ())], [1, (), 0, 0])
        self.unchanged(row_index, 4, [1, 1, 0])

    def test_refusals(self):
        for call in (row_net, count_row_loads, lambda nodes: row_load(nodes, None), lambda nodes: row_index(nodes, None)):
            self.refuses_all(InvalidNodes, NO_NODES, call)
        self.refuses_all(InvalidIndex, [None, True, False, -1, 9, LONG, "0", [0], (0,), {}, 0.0],
                         lambda index: row_load(4, index))
        wrong = [[1, 1, True], [1, False, 0], [1, 1, -1], [1, 1, 0.0], [1, 1], [1, 1, 0, 0], [2, 1, 0], [1, 2, 2],
                 [0, 2, 1], [LONG] * 3, [[0, 0, 0]]]
        wrong += [value for value in any_values() if not same(value, [1, 1, 1])]
        self.refuses_all(InvalidLoad, wrong, lambda load: row_index(4, load))


if __name__ == "__main__":
    unittest.main()
