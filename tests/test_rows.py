"""Points [8], [131] and [133]: rows that fit, and own rows."""

import itertools
import random
import unittest

from otherfirst.errors import InvalidNode, InvalidRows, NoFit, TooMany, Unequal
from otherfirst.nets import Net
from otherfirst.rows import count_own_rows, fit, is_fit_ring, own_rows
from otherfirst.states import State
from tests import judge
from tests.helpers import EMPTY, LONG, ROW, TRIANGLE, Case, any_values, no_nodes_of, random_net, random_states

CHAIN = Net(3, [((0, True), (1, True)), ((1, True), (2, True)), ((2, True),)])
# Both nodes have both tasks.
TWIN = Net(2, [((0, True), (1, True)), ((0, False), (1, True))])
NO_ROWS = [None, True, 0, "", {}, CHAIN, [], [[], []], [[], [], [], []], [None, [], []], [[], {}, []], [[], [], "0"],
           [[1], [], []], [[2], [], []], [[], [], [0]], [[3], [], []], [[-1], [], []], [[True], [], []],
           [[False], [0], []], [[None], [], []], [["0"], [], []], [[0.0], [0], []], [[[0]], [], []], [0, 0, 0],
           [[], [], [2] * 401], ((), (), (2,) * 401)]


def stories(net, longest):
    """The own rows of all lists of tasks up to a length."""
    found = {}
    for length in range(longest + 1):
        for order in itertools.product(range(len(net)), repeat=length):
            found.setdefault(story(net, order), order)
    return found


def story(net, order):
    return tuple(tuple(task for task in order if node in net.ends(task)) for node in range(net.nodes))


def moments(row):
    return [(task, row[:at].count(task)) for at, task in enumerate(row)]


def is_ring_by_words(rows, value):
    """The words of point [131], for a list of tuples."""
    if len(value) < 2 or len(set(value)) < len(value):
        return False
    ahead = {pair for row in rows for pair in zip(moments(row), moments(row)[1:])}
    return all(pair in ahead for pair in zip(value, value[1:] + value[:1]))


def random_rows(rng, net, most):
    """Rows in which each task stands equally often in the rows of its ends."""
    rows = [[] for _ in range(net.nodes)]
    for task in range(len(net)):
        many = rng.randint(0, most)
        for node in net.ends(task):
            rows[node] += [task] * many
    for row in rows:
        rng.shuffle(row)
    return rows


def has_ring(net):
    """Whether the shared tasks make a ring of nodes."""
    group = {node: node for node in range(net.nodes)}
    for task in range(len(net)):
        ends = net.ends(task)
        if len(ends) == 2:
            if group[ends[0]] == group[ends[1]]:
                return True
            one, other = group[ends[0]], group[ends[1]]
            group = {node: one if mark == other else mark for node, mark in group.items()}
    return False


class FitTest(Case):
    def test_a_search_of_all_lists_of_tasks_agrees(self):
        seen = {True: 0, False: 0}
        for net in (TWIN, TRIANGLE, CHAIN, Net(2, [((0, True), (1, True))] * 3)):
            known = stories(net, 5)
            for counts in judge.within([2] * len(net)):
                if sum(counts) > 5:
                    continue
                bags = [[task for task in net.at(node) for _ in range(counts[task])] for node in range(net.nodes)]
                for rows in itertools.product(*[sorted(set(itertools.permutations(bag))) for bag in bags]):
                    seen[self.check(net, rows, rows in known)] += 1
        self.assertGreater(min(seen.values()), 100)

    def check(self, net, rows, wanted):
        if wanted:
            found = fit(net, rows)
            self.agree([type(found), story(net, found)], [list, rows])
            self.agree(fit(net, [list(row) for row in rows]), found)
        else:
            with self.assertRaises(NoFit) as caught:
                fit(net, rows)
            ring = caught.exception.ring
            self.assertIs(type(ring), list)
            self.assertTrue(is_ring_by_words(rows, ring))
            self.agree(is_fit_ring(net, rows, ring), True)
            self.refuses(NoFit, {"ring": ring}, fit, net, [list(row) for row in rows])
        return wanted

    def test_random_rows(self):
        rng = random.Random(131)
        seen = {True: 0, False: 0}
        for _ in range(600):
            net = random_net(rng, 6, 7)
            rows = random_rows(rng, net, 3)
            try:
                found = fit(net, rows)
            except NoFit as error:
                self.assertTrue(has_ring(net))
                self.assertTrue(is_ring_by_words(rows, error.ring))
                self.agree(is_fit_ring(net, rows, error.ring), True)
                seen[False] += 1
            else:
                self.agree(story(net, found), tuple(tuple(row) for row in rows))
                seen[True] += 1
        self.assertGreater(min(seen.values()), 50)

    def test_without_a_ring_of_nodes_any_rows_fit(self):
        rng = random.Random(132)
        for _ in range(60):
            nodes = rng.randint(2, 24)
            tasks = [((rng.randrange(node), True), (node, True)) for node in range(1, nodes)]
            net = Net(nodes, tasks + [((rng.randrange(nodes), False),)])
            rows = random_rows(rng, net, 8)
            self.agree(story(net, fit(net, rows)), tuple(tuple(row) for row in rows))

    def test_fit(self):
        self.agree(fit(CHAIN, [[0], [1, 0], [2, 1]]), [2, 1, 0])
        self.agree([fit(net=EMPTY, rows=[[], []]), fit(CHAIN, ((), (), ()))], [[], []])
        self.agree(story(TWIN, fit(TWIN, [[0, 1, 1], [0, 1, 1]])), ((0, 1, 1), (0, 1, 1)))
        self.new_each_time(lambda: fit(CHAIN, [[0], [1, 0], [2, 1]]))
        self.unchanged(fit, CHAIN, [[0], [1, 0], [2, 1]])

    def test_whatever_they_mind(self):
        self.agree([fit(CHAIN, [[], [], [2, 2, 2]]), fit(CHAIN, [[0, 0], [0, 0], []])], [[2, 2, 2], [0, 0]])

    def test_no_fit(self):
        self.agree(sorted(self.ring_of([[0, 1], [1, 0]])), [(0, 0), (1, 0)])
        self.new_each_time(lambda: self.ring_of([[0, 1], [1, 0]]))
        self.assertTrue(is_ring_by_words([[0, 0, 1], [0, 1, 0]], self.ring_of([[0, 0, 1], [0, 1, 0]])))
        self.agree(sorted(self.ring_of([[0, 0, 1], [0, 1, 0]])), [(0, 1), (1, 0)])

    def ring_of(self, rows):
        with self.assertRaises(NoFit) as caught:
            fit(TWIN, rows)
        return caught.exception.ring

    def test_at_most_400_runs(self):
        owns = Net(2, [((0, True),), ((1, True),), ((0, True), (1, True))])
        self.agree(len(fit(owns, [[0] * 200, [1] * 200])), 400)
        self.refuses(TooMany, {"count": 401}, fit, owns, [[0] * 200, [1] * 201])
        self.agree(fit(owns, [[2] * 400, [2] * 400]), [2] * 400)
        self.agree(len(fit(owns, [[2] * 300 + [0] * 50, [1] * 50 + [2] * 300])), 400)
        self.refuses(TooMany, {"count": 800}, fit, owns, [[0] * 400, [1] * 400])
        # Too many comes ahead of what does not fit.
        wide = Net(3, list(TWIN.tasks) + [((2, True),)])
        self.refuses(TooMany, {"count": 402}, fit, wide, [[0, 1], [1, 0], [2] * 400])

    def test_refusals(self):
        for call in (fit, lambda net, rows: is_fit_ring(net, rows, None)):
            self.refuses_all(InvalidRows, NO_ROWS, lambda rows: call(CHAIN, rows))
            self.refuses_all(InvalidRows, any_values()[:-1], lambda rows: call(CHAIN, rows))
            for rows, task in (([[0], [], []], 0), ([[], [0, 1], [1]], 0), ([[0], [0, 1, 1], [1, 2]], 1),
                               ([[0, 0], [0, 1], [2]], 0), ([[], [1], [2]], 1), ([[], [], [1, 2]], 1)):
                self.refuses(Unequal, {"task": task}, call, CHAIN, rows)
            self.refuses(InvalidRows, {"given": [[0], [], [0]]}, call, CHAIN, [[0], [], [0]])
            self.refuses(Unequal, {"task": 1}, call, TWIN, [[0, 1, 1], [1, 0]])
        wide = Net(3, [((0, True),), ((1, True),), ((1, True), (2, True))])
        self.refuses(Unequal, {"task": 2}, fit, wide, [[0] * 400, [1] * 400, [2]])


class IsFitRingTest(Case):
    def test_all_small_lists(self):
        right = 0
        for net, rows in [(TWIN, [[0, 1], [1, 0]]), (TWIN, [[0, 0, 1], [0, 1, 0]]), (TWIN, [[0, 1, 0, 1], [1, 0, 0, 1]]),
                          (TRIANGLE, [[0, 2], [1, 0], [2, 1]]), (TRIANGLE, [[2, 0], [0, 1], [1, 2]]),
                          (CHAIN, [[0], [0, 1], [1, 2]])]:
            items = [(task, k) for task in range(len(net)) for k in range(3)]
            for length in range(5 if len(items) < 9 else 4):
                for value in itertools.product(items, repeat=length):
                    wanted = is_ring_by_words(rows, value)
                    self.agree([is_fit_ring(net, rows, value), is_fit_ring(net, rows, list(value))], [wanted] * 2)
                    right += wanted
        self.assertGreater(right, 8)

    def test_it_may_begin_anywhere(self):
        rows = [[0, 2], [1, 0], [2, 1]]
        ring = [(0, 0), (2, 0), (1, 0)]
        for at in range(3):
            self.agree(is_fit_ring(net=TRIANGLE, rows=rows, value=ring[at:] + ring[:at]), True)
        self.agree([is_fit_ring(TRIANGLE, rows, ring[::-1]), is_fit_ring(TRIANGLE, rows, ring + ring)], [False, False])

    def test_wrong_ones(self):
        rows = [[0, 1], [1, 0]]
        self.agree(is_fit_ring(TWIN, rows, ((0, 0), (1, 0))), True)
        for value in [[[0, 0], (1, 0)], [(0, 0), [1, 0]], [(0, False), (1, 0)], [(False, 0), (1, 0)], [(0, 0), (True, 0)],
                      [(0, 0), (1, False)], [(0, 0)], [], None, {}, "", [(0, 0), (1, 1)], [(0, 0), (1, 0), (0, 0)],
                      [(0, 0, 0), (1, 0, 0)], [(0,), (1,)], [(0, 0), (1, None)], [(0, 0), (1, 0.0)], [0, 1],
                      [(0, 0), (1, 0), (0, 0), (1, 0)], [(0, 0), (1, "0")], [(0, 0), (1, [0])]]:
            self.agree(is_fit_ring(TWIN, rows, value), False)
        # Only what stands directly ahead counts.
        self.agree(is_fit_ring(TWIN, [[0, 0, 1], [1, 0, 0]], [(0, 0), (1, 0)]), False)
        self.agree(is_fit_ring(TWIN, [[0, 0, 1], [1, 0, 0]], [(0, 0), (0, 1), (1, 0)]), True)

    def test_any_value_and_no_too_many(self):
        wide = Net(3, list(TWIN.tasks) + [((2, True),)])
        self.agree(is_fit_ring(wide, [[0, 1], [1, 0], [2] * 400], [(0, 0), (1, 0)]), True)
        for value in any_values():
            self.agree(is_fit_ring(TWIN, [[0, 1], [1, 0]], value), False)
            self.agree(is_fit_ring(TWIN, [[0, 1], [1, 0]], [(0, 0), value]), False)
            self.agree(is_fit_ring(TWIN, [[0, 1], [1, 0]], [(0, 0), (1, value)]), repr(value) == "0")


class OwnRowsTest(Case):
    def test_a_search_of_all_orders_agrees(self):
        most = 0
        for state in random_states(133, 250, most_nodes=2, most_tasks=4, most_left=2, none=0.3):
            for node in range(state.net.nodes):
                bag = [task for task in state.net.at(node) for _ in range(state.load[task])]
                wanted = sorted(list(order) for order in set(itertools.permutations(bag))
                                if self.can_run(state.net, node, state.lasts[node], order))
                self.agree(count_own_rows(state, node), len(wanted))
                if len(wanted) > 200:
                    self.refuses(TooMany, {"count": len(wanted)}, own_rows, state, node)
                else:
                    self.agree(own_rows(state, node), wanted)
                most = max(most, len(wanted))
        self.assertGreater(most, 200)

    def can_run(self, net, node, last, order):
        for task in order:
            if task == last and net.minds(task, node):
                return False
            last = task
        return True

    def test_own_rows(self):
        self.agree(own_rows(state=State(CHAIN, [1, 1, 1]), node=1), [[0, 1], [1, 0]])
        self.agree(count_own_rows(state=State(CHAIN, [2, 2, 0], [None, 0, None]), node=1), 1)
        self.agree(own_rows(State(CHAIN, [2, 2, 0], [None, 0, None]), 1), [[1, 0, 1, 0]])
        self.agree([own_rows(State(CHAIN, [0, 0, 0], [0, 0, 2]), 1), count_own_rows(State(EMPTY, []), 0)], [[[]], 1])
        self.agree([own_rows(State(CHAIN, [2, 0, 0]), 1), count_own_rows(State(CHAIN, [2, 0, 0]), 1)], [[], 0])
        self.agree([own_rows(State(CHAIN, [0, 0, 1], [None, None, 2]), 2), own_rows(State(CHAIN, [0, 0, 1]), 2)], [[], [[2]]])
        self.new_each_time(lambda: own_rows(State(CHAIN, [1, 1, 1]), 1))
        self.new_each_time(lambda: own_rows(State(CHAIN, [1, 1, 1]), 1)[0])
        self.new_each_time(lambda: own_rows(State(CHAIN, [0, 0, 0]), 1)[0])

    def test_great_numbers(self):
        free = Net(1, [((0, False),)] * 14)
        self.agree(count_own_rows(State(free, [1] * 14), 0), 87178291200)
        self.agree(count_own_rows(State(free, [19999] + [0] * 13), 0), 1)
        self.agree(count_own_rows(State(free, [9999, 1] + [0] * 12), 0), 10000)
        pair = Net(1, [((0, True),), ((0, True),)])
        self.agree([count_own_rows(State(pair, [140, 140]), 0), count_own_rows(State(pair, [140, 140], [1]), 0),
                    count_own_rows(State(pair, [140, 139]), 0), count_own_rows(State(pair, [140, 138]), 0)], [2, 1, 1, 0])
        self.agree(own_rows(State(pair, [140, 140]), 0), [[0, 1] * 140, [1, 0] * 140])
        # No order comes to an end, though there are ever so many beginnings.
        three = Net(1, [((0, True),), ((0, False),), ((0, False),)])
        self.agree([own_rows(State(three, [198, 9, 9]), 0), count_own_rows(State(three, [198, 9, 9]), 0)], [[], 0])

    def test_limits(self):
        free = Net(1, [((0, False),)] * 15)
        none = [0] * 13
        self.agree(count_own_rows(State(free, [19999, 0] + none), 0), 1)
        self.refuses(TooMany, {"count": 20001}, count_own_rows, State(free, [20000, 0] + none), 0)
        self.refuses(TooMany, {"count": 32768}, count_own_rows, State(free, [1] * 15), 0)
        self.refuses(TooMany, {"count": (LONG + 1) * 2}, count_own_rows, State(free, [LONG, 1] + none), 0)
        # The work comes first, then the product, then the number of the orders.
        self.agree(own_rows(State(free, [400, 0] + none), 0), [[0] * 400])
        self.refuses(TooMany, {"count": 401}, own_rows, State(free, [401, 0] + none), 0)
        self.refuses(TooMany, {"count": LONG + 400}, own_rows, State(free, [LONG, 400] + none), 0)
        self.refuses(TooMany, {"count": 201 * 201}, own_rows, State(free, [200, 200] + none), 0)
        self.refuses(TooMany, {"count": 201}, own_rows, State(free, [200, 1] + none), 0)
        self.agree(len(own_rows(State(free, [199, 1] + none), 0)), 200)
        self.refuses(TooMany, {"count": 400}, own_rows, State(free, [399, 1] + none), 0)
        self.refuses(TooMany, {"count": 20301}, own_rows, State(free, [200, 100, 0] + none[1:]), 0)
        # What is left elsewhere does not count.
        apart = Net(2, [((0, True),), ((1, False),)])
        self.agree([own_rows(State(apart, [1, LONG]), 0), count_own_rows(State(apart, [1, LONG]), 0)], [[[0]], 1])

    def test_refusals(self):
        for call in (own_rows, count_own_rows):
            self.refuses_all(InvalidNode, no_nodes_of(ROW), lambda node: call(State(ROW, [LONG, LONG, LONG]), node))


if __name__ == "__main__":
    unittest.main()
