"""Points [124] and [125]: branches, and errands that have a task."""

import itertools
import random
import unittest

from otherfirst.branches import errand_through, is_closed_branch
from otherfirst.errands import is_errand
from otherfirst.errors import InvalidNode, InvalidTask, NoErrand, NotAnEnd
from otherfirst.greatest import greatest
from otherfirst.nets import Net
from tests import judge
from tests.helpers import EMPTY, LONG, PAIR, ROW, TRIANGLE, Case, any_values, lasts_of, no_nodes_of, no_tasks_of
from tests.helpers import small_nets
from tests.test_errands import is_errand_by_words

CHAIN = Net(4, [((0, True), (1, True)), ((1, True), (2, True)), ((2, True), (3, True)), ((3, False),)])


def nets():
    """Small nets, most of them trees with some ends that do not mind, some with rings and own tasks."""
    rng = random.Random(124)
    found = [CHAIN, ROW, PAIR, TRIANGLE] + small_nets(125, 60, 4, 5)[4:]
    for _ in range(80):
        nodes = rng.randint(2, 6)
        tasks = []
        for node in range(1, nodes):
            ends = sorted([rng.randrange(node), node])
            tasks.append(tuple((end, rng.random() < 0.9) for end in ends))
        tasks += [((rng.randrange(nodes), rng.random() < 0.7),)] * rng.choice((0, 0, 1))
        if rng.random() < 0.2:
            tasks.append(((0, True), (nodes - 1, True)))
        rng.shuffle(tasks)
        found.append(Net(nodes, tasks))
    return found


def ends_of(net, task):
    return [node for node, _ in net.tasks[task]]


def way_to(net, nodes, tasks, start, goal):
    """The tasks on the way from one node to another one, in a tree of these nodes and tasks."""
    ways = {start: []}
    border = [start]
    while border:
        node = border.pop()
        for task in tasks:
            if node in ends_of(net, task):
                for other in ends_of(net, task):
                    if other in nodes and other not in ways:
                        ways[other] = ways[node] + [task]
                        border.append(other)
    return ways.get(goal)


def closed_by_words(net, task, end, nodes):
    """The words of point [124], for a set of nodes."""
    others = [node for node in ends_of(net, task) if node != end]
    if end not in nodes or any(node in nodes for node in others):
        return False
    inner = [other for other in range(len(net)) if other != task and any(node in nodes for node in ends_of(net, other))]
    if not all(len(ends_of(net, other)) == 2 and set(ends_of(net, other)) <= set(nodes) for other in inner):
        return False
    if len(inner) != len(nodes) - 1:
        return False
    for node in nodes:
        way = way_to(net, nodes, inner, node, end)
        if way is None:
            return False
        first = way[0] if way else task
        if (node, True) not in net.tasks[first]:
            return False
    return True


def closed_branches(net, task, end):
    return [list(nodes) for size in range(1, net.nodes + 1) for nodes in itertools.combinations(range(net.nodes), size)
            if closed_by_words(net, task, end, nodes)]


class ClosedBranchTest(Case):
    def test_all_sets_of_nodes(self):
        right = {}
        for net in nets():
            for task in range(len(net)):
                for end in ends_of(net, task):
                    found = closed_branches(net, task, end)
                    self.assertLessEqual(len(found), 1)
                    for size in range(net.nodes + 1):
                        for nodes in itertools.combinations(range(net.nodes), size):
                            wanted = list(nodes) in found
                            self.agree([is_closed_branch(net, task, end, list(nodes)),
                                        is_closed_branch(net, task, end, nodes[::-1])], [wanted] * 2)
                    for nodes in found:
                        right[len(nodes)] = right.get(len(nodes), 0) + 1
        self.assertGreater(len(right), 4)

    def test_is_closed_branch(self):
        for value in ([0, 1], [1, 0], (0, 1)):
            self.agree(is_closed_branch(net=CHAIN, task=1, node=1, value=value), True)
        for value in [[], [0], [1], [0, 1, 2], [0, 1, 1], [0, 0, 1], [2], [False, 1], [0, True], [1, None], ["0", 1],
                      [0, 1.0], [[0], 1], [(0, 1)], None, {}, "", [0, 1, -1], [0, 1, 4], {0: 1}]:
            self.agree(is_closed_branch(CHAIN, 1, 1, value), False)
        self.agree([is_closed_branch(CHAIN, 1, 2, [2, 3]), is_closed_branch(CHAIN, 1, 2, [2])], [False, False])
        own = Net(1, [((0, True),)])
        self.agree([is_closed_branch(own, 0, 0, [0]), is_closed_branch(Net(1, [((0, False),)]), 0, 0, [0]),
                    is_closed_branch(Net(1, [((0, True),)] * 2), 0, 0, [0])], [True, False, False])

    def test_a_ring_is_no_branch(self):
        for task in range(3):
            for end in TRIANGLE.ends(task):
                for nodes in ([end], [0, 1, 2], list(TRIANGLE.ends(task))):
                    self.agree(is_closed_branch(TRIANGLE, task, end, nodes), False)
        double = Net(3, [((0, True), (1, True)), ((1, True), (2, True)), ((1, True), (2, True))])
        self.agree([is_closed_branch(double, 0, 1, [1, 2]), is_closed_branch(double, 0, 0, [0])], [False, True])

    def test_any_value(self):
        for value in any_values():
            self.agree(is_closed_branch(CHAIN, 1, 1, value), repr(value) in ("[0, 1]", "(0, 1)"))
            self.agree(is_closed_branch(CHAIN, 1, 1, [0, value]), repr(value) == "1")

    def test_refusals(self):
        for value in (None, [0, 1]):
            self.refuses_all(InvalidTask, no_tasks_of(CHAIN), lambda task: is_closed_branch(CHAIN, task, 9, value))
            self.refuses_all(InvalidNode, no_nodes_of(CHAIN), lambda node: is_closed_branch(CHAIN, 0, node, value))
            for task, node in ((0, 2), (0, 3), (3, 0), (2, 1)):
                self.refuses(NotAnEnd, {"task": task, "node": node}, is_closed_branch, CHAIN, task, node, value)
            self.refuses(InvalidNode, {"given": 9}, is_closed_branch, CHAIN, 0, 9, value)
            self.refuses(InvalidTask, {"given": 9}, is_closed_branch, EMPTY, 9, 9, value)


class ErrandThroughTest(Case):
    def test_there_is_an_errand_exactly_if_no_end_has_a_closed_branch(self):
        seen = {"closed": 0, "open": 0, "none": 0}
        for net in nets():
            for task in range(len(net)):
                closed = [(end, closed_branches(net, task, end)[0]) for end in ends_of(net, task)
                          if closed_branches(net, task, end)]
                if closed:
                    self.refuses(NoErrand, {"node": closed[0][0], "branch": closed[0][1]}, errand_through, net, task)
                    seen["none"] += 1
                    continue
                errand = errand_through(net, task)
                self.assertIs(type(errand), list)
                self.assertTrue(is_errand_by_words(net, errand), (net.line(), errand))
                self.assertIn(task, errand[::2])
                self.agree([is_errand(net, errand), errand_through(net, task)], [True, errand])
                seen["open" if len(errand) % 2 else "closed"] += 1
        self.assertGreater(min(seen.values()), 40)

    def test_without_an_errand_no_walk_leads_on(self):
        # All rows of tasks and nodes, up to a length, of nets with closed branches.
        for net in (CHAIN, ROW, Net(2, [((0, True), (1, True)), ((1, True),)])):
            size = max(net.nodes, len(net))
            found = {task for length in range(3, 8) for row in itertools.product(range(size), repeat=length)
                     if row[0] < len(net) and is_errand_by_words(net, list(row)) for task in row[::2]}
            for task in range(len(net)):
                closed = any(closed_branches(net, task, end) for end in ends_of(net, task))
                self.assertEqual(task in found, not closed)

    def test_errand_through(self):
        self.agree(errand_through(net=CHAIN, task=3), [3, 3, 3])
        self.refuses(NoErrand, {"node": 2, "branch": [0, 1, 2]}, errand_through, CHAIN, 2)
        self.refuses(NoErrand, {"node": 0, "branch": [0]}, errand_through, CHAIN, 0)
        two = Net(2, [((0, True), (1, True))])
        self.refuses(NoErrand, {"node": 0, "branch": [0]}, errand_through, two, 0)
        self.refuses(NoErrand, {"node": 1, "branch": [1]}, errand_through, Net(2, [((0, False), (1, True))]), 0)
        self.agree(is_errand(PAIR, errand_through(PAIR, 1)), True)
        self.new_each_time(lambda: errand_through(CHAIN, 3))
        self.new_each_time(lambda: self.refuses(NoErrand, {"node": 2, "branch": [0, 1, 2]}, errand_through, CHAIN, 2).branch)

    def test_great_nets(self):
        row = Net(24, [((node, True), (node + 1, True)) for node in range(23)] + [((0, True),), ((23, True),)])
        for task in range(25):
            errand = errand_through(row, task)
            self.agree([is_errand(row, errand), task in errand[::2]], [True, True])
        # A way to a ring and round it, and back again.
        ring = Net(24, [((node, True), (node + 1, True)) for node in range(23)]
                   + [((0, True), (2, True)), ((21, True), (23, True))])
        for task in range(25):
            errand = errand_through(ring, task)
            self.agree([is_errand(ring, errand), task in errand[::2]], [True, True])

    def test_refusals(self):
        self.refuses_all(InvalidTask, no_tasks_of(CHAIN), lambda task: errand_through(CHAIN, task))


class LoadTest(Case):
    def test_a_task_that_has_an_errand_can_be_left_any_number_of_times(self):
        for net in nets():
            for lasts in lasts_of(net)[:3]:
                most = greatest(net, lasts, [LONG] * len(net))
                for task in range(len(net)):
                    closed = [branch for end in ends_of(net, task) for branch in closed_branches(net, task, end)]
                    if closed:
                        self.assertLessEqual(most[task], min(len(branch) for branch in closed))
                    else:
                        self.assertEqual(most[task], LONG)

    def test_no_load_has_a_task_more_often_than_a_closed_branch_has_nodes(self):
        for net in nets()[:12]:
            if len(net) > 4:
                continue
            closed = {task: min([len(branch) for end in ends_of(net, task) for branch in closed_branches(net, task, end)],
                                default=99) for task in range(len(net))}
            for load in judge.within([3] * len(net)):
                for lasts in judge.all_lasts(net)[-2:]:
                    if judge.done(net, load, lasts):
                        self.assertTrue(all(load[task] <= closed[task] for task in range(len(net))))


if __name__ == "__main__":
    unittest.main()
