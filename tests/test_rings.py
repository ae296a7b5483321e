"""Points [6], [8] and [41]: rings."""

import itertools
import unittest

from otherfirst.nets import Net
from otherfirst.rings import is_ring, rings
from otherfirst.states import State
from tests.helpers import EMPTY, PAIR, ROW, TRIANGLE, Case, all_states, any_values, random_states

RING = State(TRIANGLE, [1, 1, 1], [0, 1, 2])
SQUARE = Net(4, [((0, True), (1, True)), ((0, True), (1, True)), ((2, True), (3, True)), ((2, True), (3, True))])


def is_ring_by_words(state, value):
    """The words of point [6], sentence by sentence, for a list of tuples of a node and a task of the net."""
    nodes = [node for node, _ in value]
    tasks = [task for _, task in value]
    if len(value) < 2 or len(set(nodes)) < len(value) or len(set(tasks)) < len(value):
        return False
    for (node, task), following in zip(value, nodes[1:] + nodes[:1]):
        if sorted(end for end, _ in state.net.tasks[task]) != sorted([node, following]):
            return False
        if state.lasts[node] != task or (node, True) not in state.net.tasks[task]:
            return False
    if len(set(state.load[task] for task in tasks)) != 1 or state.load[tasks[0]] < 1:
        return False
    for task, ends in enumerate(state.net.tasks):
        if task not in tasks and state.load[task] > 0 and any(node in nodes for node, _ in ends):
            return False
    return True


def candidates(state):
    """All rows of tuples of a node and one of its tasks, of different nodes."""
    found = []
    for many in range(1, state.net.nodes + 1):
        for nodes in itertools.permutations(range(state.net.nodes), many):
            found += [list(zip(nodes, tasks)) for tasks in itertools.product(*[state.net.at(node) for node in nodes])]
    return found


class RingsTest(Case):
    def test_rings(self):
        self.agree(rings(RING), [[(0, 0), (1, 1), (2, 2)]])
        self.agree(rings(State(TRIANGLE, [3, 3, 3], [2, 0, 1])), [[(0, 2), (2, 1), (1, 0)]])
        self.agree(rings(State(PAIR, [1, 1], [1, 0])), [[(0, 1), (1, 0)]])
        self.agree(rings(state=State(PAIR, [2, 2], [0, 1])), [[(0, 0), (1, 1)]])

    def test_several_rings(self):
        state = State(SQUARE, [2, 2, 1, 1], [1, 0, 2, 3])
        self.agree(rings(state), [[(0, 1), (1, 0)], [(2, 2), (3, 3)]])

    def test_no_rings(self):
        for state in [
            State(EMPTY, []), State(ROW, [1, 1, 1]), State(TRIANGLE, [1, 1, 1]),
            State(TRIANGLE, [0, 0, 0], [0, 1, 2]), State(TRIANGLE, [1, 1, 2], [0, 1, 2]),
            State(TRIANGLE, [1, 1, 1], [0, 1, 1]), State(TRIANGLE, [1, 1, 1], [0, 0, 2]),
            State(TRIANGLE, [1, 1, 1], [0, None, 2]), State(PAIR, [1, 1], [0, 0]), State(PAIR, [1, 2], [0, 1]),
        ]:
            self.agree(rings(state), [])

    def test_a_node_of_a_ring_minds_its_task(self):
        for minds in (True, False):
            net = Net(2, [((0, minds), (1, True)), ((0, True), (1, True))])
            self.assertEqual(rings(State(net, [1, 1], [0, 1])) == [], not minds)
        # The far end of a task need not mind it.
        net = Net(2, [((0, True), (1, False)), ((0, False), (1, True))])
        self.agree(rings(State(net, [1, 1], [0, 1])), [[(0, 0), (1, 1)]])

    def test_other_tasks_at_the_nodes(self):
        net = Net(3, [((0, True), (1, True)), ((0, True), (1, True)), ((1, True), (2, True)), ((0, True),), ((2, True),)])
        ring = [[(0, 0), (1, 1)]]
        self.agree(rings(State(net, [1, 1, 0, 0, 0], [0, 1, None])), ring)
        self.agree(rings(State(net, [1, 1, 0, 0, 1], [0, 1, None])), ring)
        self.agree(rings(State(net, [1, 1, 1, 0, 0], [0, 1, None])), [])
        self.agree(rings(State(net, [1, 1, 0, 1, 0], [0, 1, None])), [])

    def test_new_lists(self):
        self.new_each_time(lambda: rings(RING))
        rings(RING)[0].append("changed")
        self.agree(rings(RING), [[(0, 0), (1, 1), (2, 2)]])

    def test_all_states_of_small_nets(self):
        states = all_states(TRIANGLE, 2) + all_states(PAIR, 2) + random_states(12, 150, most_left=1, none=0)
        for state in states:
            found = [value for value in candidates(state) if is_ring_by_words(state, value)]
            for value in found:
                self.agree(is_ring(state, value), True)
            self.agree(rings(state), sorted(value for value in found if value[0] == min(value)))
            nodes = [node for ring in rings(state) for node, _ in ring]
            self.assertEqual(len(nodes), len(set(nodes)))


class IsRingTest(Case):
    def test_it_may_begin_anywhere(self):
        for value in ([(0, 0), (1, 1), (2, 2)], [(1, 1), (2, 2), (0, 0)], ((2, 2), (0, 0), (1, 1))):
            self.agree(is_ring(RING, value), True)
        self.agree(is_ring(state=RING, value=[(0, 0), (1, 1), (2, 2)]), True)

    def test_no_rings(self):
        for value in [
            [], (), [(0, 0)], [(0, 0), (1, 1)], [(0, 0), (2, 2), (1, 1)], [(0, 0), (1, 1), (2, 2), (0, 0)],
            [(0, 2), (1, 0), (2, 1)], [[0, 0], [1, 1], [2, 2]], [(0, 0), [1, 1], (2, 2)],
            [(0, 0), (True, 1), (2, 2)], [(0, 0), (1, True), (2, 2)], [(False, 0), (1, 1), (2, 2)],
            [(0, False), (1, 1), (2, 2)], [(0, 0, 0), (1, 1, 1), (2, 2, 2)], [0, 1, 2], [None, None, None],
            [(0, 0), (1, 1), (2, None)], [(0, 0), (1, 1), (2, "2")], [(0, 0), (1, 1), (2, [2])],
            [(0, 0), (1, 1), (5, 5)], [(-1, 2), (0, 0), (1, 1)], {}, "ring", None, True, 0, TRIANGLE, RING,
            [(0, 0), (1, 1), (2, 2.0)],
        ]:
            self.agree(is_ring(RING, value), False)

    def test_any_value(self):
        for state in (RING, State(EMPTY, []), State(PAIR, [1, 1], [0, 1])):
            for value in any_values():
                self.assertIn(is_ring(state, value), (True, False))

    def test_all_candidates_of_small_states(self):
        states = [RING, State(PAIR, [1, 1], [0, 1]), State(SQUARE, [2, 2, 1, 1], [1, 0, 2, 3]),
                  State(TRIANGLE, [1, 1, 2], [0, 1, 2])]
        for state in states:
            for value in candidates(state):
                self.agree(is_ring(state, value), is_ring_by_words(state, value))


if __name__ == "__main__":
    unittest.main()
