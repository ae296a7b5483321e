"""Points [8], [91], [94], [95] and [96]: what falls if runs are struck."""

import unittest

from otherfirst.errors import Circled, Impossible, InvalidLasts, InvalidLoad, InvalidNode, InvalidTask, NothingLeft
from otherfirst.errors import TooMany
from otherfirst.decide import defect
from otherfirst.greatest import greatest
from otherfirst.nets import Net
from otherfirst.states import State
from otherfirst.walks import is_strikes, leaves, lowered, price
from tests import judge
from tests.helpers import EMPTY, LONG, PAIR, TRIANGLE, Case, any_values, lasts_of, no_lasts_of, no_loads_of
from tests.helpers import no_nodes_of, no_tasks_of, small_nets

NET = Net(3, [((0, True), (1, True)), ((0, True), (1, True)), ((1, True), (2, True)), ((2, False),)])
CHAIN = Net(3, [((0, True), (1, True)), ((1, True), (2, True)), ((2, False),)])
# What node 0 has of its tasks 1 and 2 may fall with the own task 0.
STAR = Net(3, [((0, False),), ((0, True), (1, False)), ((0, True), (2, False))])
FRESH = [None, None, None]
# A row that falls as a whole if its first task does.
ROW = Net(24, [((0, False),)] + [((node, True), (node + 1, False)) for node in range(23)])


def less(load, task, number=1):
    return tuple(left - number if other == task else left for other, left in enumerate(load))


def without(net, load, node):
    return tuple(0 if node in [end for end, _ in net.tasks[task]] else left for task, left in enumerate(load))


def most_within(net, lasts, bounds):
    loads = [load for load in judge.within(bounds) if judge.done(net, load, lasts)]
    return tuple(max(load[task] for load in loads) for task in range(len(net)))


def walk_by_words(net, lasts, load, node):
    """The load behind the walk, and the walk, by the words of point [94]."""
    walk = []
    while True:
        tasks = [task for at, task in judge.often(net, load, lasts) if at == node]
        if tasks == []:
            return load, walk
        assert len(tasks) == 1
        walk.append((node, tasks[0]))
        load = less(load, tasks[0])
        others = [end for end, _ in net.tasks[tasks[0]] if end != node]
        if others == []:
            return load, walk
        node = others[0]


def all_strikes(net, lasts, load):
    """All lists of strikes from a load on, and all beginnings of them."""
    rows = [((), tuple(load))]
    found = []
    while rows:
        found += [(row, judge.often(net, left, lasts) == []) for row, left in rows]
        rows = [(row + (end,), less(left, end[1])) for row, left in rows for end in judge.often(net, left, lasts)]
    return found


def cases(seed, number, most=2):
    """Tuples of a net, sound lasts and a load."""
    found = []
    for net in small_nets(seed, number):
        for lasts in lasts_of(net)[::2]:
            found += [(net, lasts, load) for load in judge.within([most] * len(net))[::3]]
    row = Net(3, [((0, False),), ((0, True), (1, False)), ((1, True), (2, False)), ((2, True),)])
    for load in ((1, 2, 3, 4), (2, 2, 3, 4), (2, 3, 4, 5), (1, 1, 2, 3)):
        found += [(row, lasts, load) for lasts in lasts_of(row)]
    found += [(NET, lasts, load) for lasts in lasts_of(NET) for load in judge.within((1, 2, 3, 3))]
    return found


class LoweredTest(Case):
    def test_a_search_of_all_loads_agrees(self):
        longest = 0
        for net, lasts, load in cases(94, 25):
            for task in range(len(net)):
                if not judge.done(net, load, lasts):
                    self.refuses(Impossible, {"defect": defect(State(net, load, lasts))}, lowered, net, lasts, load, task)
                elif load[task] == 0:
                    self.refuses(NothingLeft, {"task": task}, lowered, net, lasts, load, task)
                else:
                    longest = max(longest, self.check(net, lasts, load, task))
        self.assertGreater(longest, 2)

    def check(self, net, lasts, load, task):
        found = lowered(net, lasts, load, task)
        left = less(load, task)
        goal = most_within(net, lasts, left)
        walks = []
        for node, _ in net.tasks[task]:
            left, walk = walk_by_words(net, lasts, left, node)
            walks.append(walk)
        self.agree(found, (left, walks))
        self.agree(left, goal)
        self.agree(price(net, lasts, load, task), sum(load) - 1 - sum(goal))
        for walk in walks:
            self.assertEqual(len({node for node, _ in walk}), len(walk))
        for other in range(len(net)):
            # Each other task falls at most once for each end.
            self.assertLessEqual(load[other] - left[other], len(net.tasks[task]) + (other == task))
        return sum(len(walk) for walk in walks)

    def test_lowered(self):
        self.agree(lowered(net=NET, lasts=FRESH, load=(1, 2, 4, 5), task=0), ((0, 1, 2, 5), [[(0, 1), (1, 2)], [(1, 2)]]))
        self.agree(lowered(NET, FRESH, [1, 2, 4, 5], 3), ((1, 2, 4, 4), [[]]))
        self.agree(lowered(STAR, FRESH, [0, 5, 4], 2), ((0, 4, 3), [[(0, 1)], []]))
        self.agree(lowered(STAR, FRESH, [1, 5, 4], 0), ((0, 5, 4), [[]]))
        self.agree(lowered(STAR, FRESH, [1, 6, 4], 0), ((0, 5, 4), [[(0, 1)]]))
        self.agree(price(net=STAR, lasts=FRESH, load=[1, 6, 4], task=0), 1)
        self.unchanged(lowered, NET, [None, 0, None], [1, 1, 1, 5], 0)

    def test_the_greater_end_comes_second(self):
        net = Net(3, [((0, True), (1, True)), ((0, True),), ((1, True), (2, True)), ((2, True),)])
        self.agree(lowered(net, FRESH, [1, 2, 2, 1], 0), ((0, 1, 1, 1), [[(0, 1)], [(1, 2)]]))
        self.agree(lowered(net, FRESH, [1, 2, 2, 3], 0), ((0, 1, 1, 2), [[(0, 1)], [(1, 2), (2, 3)]]))

    def test_it_goes_on_even_if_the_task_is_still_too_often(self):
        # Both walks meet at node 1, where task 2 has to fall twice; each of them strikes it once there.
        many = LONG // 4
        self.agree(lowered(NET, FRESH, [many, many + 1, 2 * many + 2, LONG], 0),
                   ((many - 1, many, 2 * many, LONG), [[(0, 1), (1, 2)], [(1, 2)]]))

    def test_a_walk_through_all_nodes(self):
        load = [1] + list(range(2, 25))
        left, walks = lowered(ROW, [None] * 24, load, 0)
        self.agree(left, tuple([0] + list(range(1, 24))))
        self.agree(walks, [[(node, node + 1) for node in range(23)]])
        self.agree([price(ROW, [None] * 24, load, 0), price(ROW, [None] * 24, load, 23)], [23, 0])

    def test_the_lists_are_new(self):
        for part in (lambda: lowered(NET, FRESH, [1, 2, 4, 5], 0)[1], lambda: lowered(NET, FRESH, [1, 2, 4, 5], 0)[1][1],
                     lambda: lowered(NET, FRESH, [1, 0, 1, 5], 3)[1][0]):
            self.new_each_time(part)

    def test_refusals(self):
        for call in (lowered, price):
            self.refuses_in_order(call, [("lasts", FRESH, [None] * 4, InvalidLasts), ("load", [9, 9, 9], [1], InvalidLoad),
                                         ("task", 0, 3, InvalidTask)], net=CHAIN)
            self.refuses_all(InvalidLasts, no_lasts_of(CHAIN), lambda lasts: call(CHAIN, lasts, [0, 0, 0], 0))
            self.refuses_all(InvalidLoad, no_loads_of(CHAIN), lambda load: call(CHAIN, FRESH, load, 0))
            self.refuses_all(InvalidTask, no_tasks_of(PAIR), lambda task: call(PAIR, [0, 1], [9, 9], task))
            self.refuses(Circled, {"circle": [(0, 0), (1, 1)]}, call, PAIR, [0, 1], [9, 0], 1)
            self.refuses(Impossible, {"defect": ("often", 0, 1)}, call, NET, FRESH, [0, 2, 1, 5], 2)
            self.refuses(Impossible, {"defect": ("often", 0, 1)}, call, NET, FRESH, [0, 2, 1, 5], 0)
            self.refuses(NothingLeft, {"task": 0}, call, NET, FRESH, [0, 1, 1, 5], 0)


class LeavesTest(Case):
    def test_a_search_of_all_loads_agrees(self):
        most = 0
        for net, lasts, load in cases(96, 20):
            for node in range(net.nodes):
                if not judge.done(net, load, lasts):
                    self.refuses(Impossible, {"defect": defect(State(net, load, lasts))}, leaves, net, lasts, load, node)
                    continue
                left, strikes = leaves(net, lasts, load, node)
                rest = without(net, load, node)
                self.agree(left, most_within(net, lasts, rest))
                self.agree([type(strikes), len(strikes)], [list, sum(rest) - sum(left)])
                self.agree(is_strikes(net, lasts, load, node, strikes), True)
                self.assertIn((tuple(strikes), True), all_strikes(net, lasts, rest))
                self.agree(leaves(net, list(lasts), list(load), node), (left, strikes))
                most = max(most, len(strikes))
        self.assertGreater(most, 2)

    def test_leaves(self):
        self.agree(leaves(net=NET, lasts=FRESH, load=(1, 2, 4, 5), node=0), ((0, 0, 1, 5), [(1, 2), (1, 2), (1, 2)]))
        self.agree(leaves(EMPTY, [None, None], [], 1), ((), []))
        self.agree(leaves(CHAIN, FRESH, [1, 1, LONG], 2), ((1, 0, 0), []))
        self.new_each_time(lambda: leaves(NET, FRESH, [1, 2, 4, 5], 0)[1])
        self.unchanged(leaves, NET, [None, 0, None], [1, 1, 1, 5], 0)

    def test_at_most_400_strikes(self):
        # Node 0 leaves; then task 1 may be run just once more than task 2.
        net = Net(2, [((0, True), (1, False)), ((1, True),), ((1, False),)])
        for many in (400, 401, LONG):
            load = [1, 3, many + 2]
            self.agree(leaves(net, [None, None], [1, 3, LONG], 0), ((0, 3, LONG), []))
            load = [many, many + 6, 5]
            wide = Net(2, [((0, False), (1, False)), ((1, True),), ((1, False),)])
            if many == 400:
                self.agree(leaves(wide, [None, None], load, 0), ((0, 6, 5), [(1, 1)] * 400))
                self.agree(is_strikes(wide, [None, None], load, 0, [(1, 1)] * 400), True)
            else:
                self.refuses(TooMany, {"count": many}, leaves, wide, [None, None], load, 0)

    def test_the_runs_at_the_node_do_not_count(self):
        self.agree(leaves(Net(1, [((0, False),)]), [None], [LONG], 0), ((0,), []))

    def test_many_strikes_all_over(self):
        load = [200] + [200 + node for node in range(1, 24)]
        # All tasks but the first are struck with the runs at node 0, but for one at each node.
        left, strikes = leaves(ROW, [None] * 24, [9] + [9 + node for node in range(1, 24)], 0)
        self.agree(left, (0, 0) + tuple(range(1, 23)))
        self.agree([len(strikes), is_strikes(ROW, [None] * 24, [9] + [9 + node for node in range(1, 24)], 0, strikes)],
                   [220, True])
        self.refuses(TooMany, {"count": 201 * 22}, leaves, ROW, [None] * 24, load, 0)

    def test_refusals(self):
        self.refuses_in_order(leaves, [("lasts", FRESH, [None] * 4, InvalidLasts), ("load", [9, 9, 9], [1], InvalidLoad),
                                       ("node", 0, 3, InvalidNode)], net=CHAIN)
        self.refuses_all(InvalidLasts, no_lasts_of(CHAIN), lambda lasts: leaves(CHAIN, lasts, [0, 0, 0], 0))
        self.refuses_all(InvalidLoad, no_loads_of(CHAIN), lambda load: leaves(CHAIN, FRESH, load, 0))
        self.refuses_all(InvalidNode, no_nodes_of(PAIR), lambda node: leaves(PAIR, [0, 1], [9, 9], node))
        self.refuses(Circled, {"circle": [(0, 0), (1, 1)]}, leaves, PAIR, [0, 1], [9, 0], 1)
        self.refuses(Impossible, {"defect": ("often", 0, 0)}, leaves, NET, FRESH, [LONG, 0, 0, 0], 2)


class IsStrikesTest(Case):
    def test_all_small_lists(self):
        right = 0
        for net in small_nets(98, 6):
            for lasts in lasts_of(net, sound=False)[::3]:
                for load in judge.within([2] * len(net))[::5]:
                    for node in range(net.nodes):
                        right += self.judge_all(net, lasts, load, node)
        self.assertGreater(right, 1000)

    def judge_all(self, net, lasts, load, node):
        rows = all_strikes(net, lasts, without(net, load, node))
        right = 0
        for row, whole in rows[:20] + rows[-20:]:
            self.agree(is_strikes(net, lasts, load, node, list(row)), whole)
            self.agree(is_strikes(net, lasts, load, node, row), whole)
            right += whole
            if whole:
                for end in range(net.nodes):
                    for task in range(len(net)):
                        self.agree(is_strikes(net, lasts, load, node, list(row) + [(end, task)]), False)
        return right

    def test_is_strikes(self):
        right = [(1, 2), (1, 2), (1, 2)]
        self.agree(is_strikes(net=NET, lasts=FRESH, load=[1, 2, 4, 5], node=0, value=right), True)
        for value in [
            right[:2], right + right[:1], [(2, 2)] * 3, [(1, 1)] + right, [(0, 2)] * 3, [(1, 3)] + right, None, [], "",
            [[1, 2]] * 3, [(1, 2), (1, 2), [1, 2]], [(True, 2)] + right[1:], right[1:] + [(1, 2, 0)], right[1:] + [(1,)],
            right[1:] + [(1, 4)], right[1:] + [(3, 2)], right[1:] + [(-2, 2)], right[1:] + [(1, -2)],
            right[1:] + [(1, None)], right[1:] + [(None, 2)], right[1:] + [(1, 2.0)], right[1:] + [("1", 2)], {},
        ]:
            self.agree(is_strikes(NET, FRESH, [1, 2, 4, 5], 0, value), False)
        net = Net(2, [((0, True),), ((1, True),)])
        self.agree([is_strikes(net, [None, None], [3, 2], 0, [(1, 1)]), is_strikes(net, [None, None], [3, 2], 0, [(1, True)]),
                    is_strikes(net, [None, None], [2, 3], 1, [(0, 0)]), is_strikes(net, [None, None], [2, 3], 1, [(0, False)]),
                    is_strikes(net, [None, None], [2, 3], 1, [(False, 0)])], [True, False, True, False, False])

    def test_lists_of_any_length_and_loads_that_cannot_be_done(self):
        net = Net(2, [((0, True),), ((1, True),)])
        self.agree([is_strikes(net, [None, None], [0, 1001], 0, [(1, 1)] * many) for many in (999, 1000, 1001)],
                   [False, True, False])
        self.agree(is_strikes(PAIR, [0, 1], [1, 1], 0, []), True)
        for value, wanted in [([(1, 1)] * 3, True), ([(2, 1), (2, 1), (1, 1)], True), ([(1, 1), (2, 1), (1, 1)], True),
                              ([(1, 1)] * 2, False), ([(2, 1)] * 3, False), ([(2, 1), (2, 1)], False)]:
            self.agree(is_strikes(TRIANGLE, [0, 1, 2], [1, 3, 1], 0, value), wanted)

    def test_any_value(self):
        for value in any_values():
            self.agree(is_strikes(NET, FRESH, [1, 2, 4, 5], 0, value), False)
            self.agree(is_strikes(NET, FRESH, [1, 2, 4, 5], 0, [(1, 2), (1, 2), value]), False)
            self.agree(is_strikes(EMPTY, [None, None], [], 0, value), value in ([], ()))

    def test_refusals(self):
        for value in (None, []):
            self.refuses_in_order(is_strikes, [("lasts", FRESH, [None] * 4, InvalidLasts), ("load", [9] * 3, [1], InvalidLoad),
                                               ("node", 0, 3, InvalidNode)], net=CHAIN, value=value)
            self.refuses_all(InvalidLasts, no_lasts_of(CHAIN), lambda lasts: is_strikes(CHAIN, lasts, [0, 0, 0], 0, value))
            self.refuses_all(InvalidLoad, no_loads_of(CHAIN), lambda load: is_strikes(CHAIN, FRESH, load, 0, value))
            self.refuses_all(InvalidNode, no_nodes_of(PAIR), lambda node: is_strikes(PAIR, [0, 1], [9, 9], node, value))


class MainStatementTest(Case):
    def test_the_load_that_is_left_is_the_greatest_one(self):
        for load in ([3, 4, 6, 6], [9, 9, 9, 9], [LONG, LONG, LONG, LONG]):
            state = State(NET, load, [0, None, 2])
            for task in range(4):
                left, walks = lowered(NET, state.lasts, state.load, task)
                self.agree(left, greatest(NET, state.lasts, less(load, task)))
                self.agree(price(NET, state.lasts, load, task), sum(len(walk) for walk in walks))


if __name__ == "__main__":
    unittest.main()
