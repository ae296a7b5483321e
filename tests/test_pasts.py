"""Points [73], [74] and [75]: pasts of lasts."""

import unittest

from otherfirst.errors import FalseLasts, InvalidLasts, InvalidNode, NeverAhead, NoLast
from otherfirst.lasts import is_true, looks, why_false
from otherfirst.nets import Net
from otherfirst.pasts import count_pasts, is_past, past_of, past_with, sure_order
from tests import judge
from tests.helpers import EMPTY, PAIR, ROW, TRIANGLE, Case, any_values, no_nodes_of, no_schedules_of
from tests.test_lasts import small_nets

CHAIN = Net(4, [((0, True), (1, True)), ((1, True), (2, True)), ((2, True), (3, True))])
FRESH = [None] * 4
# Four nodes with two own tasks each.
OWNS = Net(4, [((node, True),) for node in (0, 1, 2, 3, 0, 1, 2, 3)])
NO_LASTS = [None, True, 0, "", {}, [], [None] * 3, [None] * 5, [1, None, None, None], [False, None, None, None],
            [None, 3, None, None], [None, -1, None, None], [[0], None, None, None], CHAIN]


def latest(net, past, node):
    """The index of the latest run of a node."""
    return max(at for at, task in enumerate(past) if node in net.ends(task))


def true_lasts():
    """Some small nets with all of their lasts that are true, and all shortest pasts of each."""
    return [(net, lasts, sorted(pasts)) for net in small_nets()
            for lasts, pasts in judge.shortest_pasts(net).items()]


class PastTest(Case):
    def test_past_of(self):
        self.agree(past_of(CHAIN, [0, 1, 1, None]), [0, 1])
        self.agree(past_of(net=CHAIN, lasts=(0, 1, 2, 2)), [0, 1, 2])
        self.agree([past_of(CHAIN, FRESH), past_of(EMPTY, [None, None])], [[], []])
        self.new_each_time(lambda: past_of(CHAIN, [0, 1, 2, 2]))

    def test_a_search_of_all_rows_of_runs_finds_the_same(self):
        for net, lasts, pasts in true_lasts():
            found = past_of(net, lasts)
            self.assertIn(found, pasts)
            self.agree(past_of(net, list(lasts)), found)
            self.assertEqual(len(found), len(set(lasts) - {None}))
            self.agree(count_pasts(net, lasts), len(pasts))

    def test_count_pasts(self):
        self.agree([count_pasts(CHAIN, [0, 0, 2, 2]), count_pasts(net=CHAIN, lasts=FRESH)], [2, 1])
        self.agree(count_pasts(OWNS, [0, 1, 2, 3]), 24)
        many = Net(24, [((node, True),) for node in range(24)])
        self.agree(count_pasts(many, list(range(24))), 620448401733239439360000)
        row = Net(24, [((node, True), (node + 1, True)) for node in range(23)])
        self.agree(count_pasts(row, list(range(23)) + [22]), 1)
        self.agree(past_of(row, [0] + list(range(23))), list(range(22, -1, -1)))

    def test_refusals(self):
        for call in (past_of, count_pasts, sure_order):
            self.refuses_all(InvalidLasts, NO_LASTS, lambda lasts: call(CHAIN, lasts))
            self.refuses(FalseLasts, {"reason": ("bare", 0)}, call, CHAIN, [0, None, None, None])
            self.refuses(FalseLasts, {"reason": ("circle", [(0, 0), (1, 1)])}, call, PAIR, [0, 1])

    def test_all_false_lasts_of_small_nets(self):
        for net in small_nets():
            for lasts in judge.all_lasts(net):
                if not is_true(net, lasts):
                    for call in (past_of, count_pasts, sure_order):
                        self.refuses(FalseLasts, {"reason": why_false(net, lasts)}, call, net, lasts)


class IsPastTest(Case):
    def test_right_ones(self):
        for past in ([0, 2], (2, 0), [1, 0, 2], [1, 2, 0]):
            self.agree(is_past(CHAIN, [0, 0, 2, 2], past), True)
        self.agree([is_past(net=CHAIN, lasts=FRESH, value=[]), is_past(EMPTY, (None, None), ())], [True, True])
        self.agree(is_past(Net(1, [((0, False),)]), [0], [0] * 400), True)

    def test_wrong_ones(self):
        for past in ([], [0], [2], [0, 1, 0, 2], [0, 0, 2], [0, 2, 1], [0, 2, 2], [True], [0, False, 2], [0, 2, 3],
                     [-1, 0, 2], None, {}, "02", ["0", 2], [(0,), 2], 0, True, [None], CHAIN, [0, 2.0]):
            self.agree(is_past(CHAIN, [0, 0, 2, 2], past), False)
        self.agree(is_past(Net(1, [((0, False),)]), [0], [0] * 401), False)
        self.agree([is_past(ROW, [None] * 3, value) for value in no_schedules_of(ROW)],
                   [False] * len(no_schedules_of(ROW)))

    def test_lasts_that_are_not_true_have_none(self):
        self.agree([is_past(PAIR, [0, 1], value) for value in ([0, 1], [1, 0], [], None)], [False] * 4)
        self.agree([is_past(CHAIN, [0, None, None, None], value) for value in ([0], [])], [False] * 2)

    def test_all_rows_of_small_nets(self):
        for net in (PAIR, ROW, TRIANGLE):
            rows = judge.all_rows(net, 4)
            for row, reached in rows:
                for lasts in judge.all_lasts(net):
                    self.agree(is_past(net, lasts, row), lasts == reached)

    def test_any_value(self):
        for net, lasts in ((ROW, [None, 1, 1]), (EMPTY, [None, None]), (PAIR, [0, 1])):
            for value in any_values():
                self.assertIn(is_past(net, lasts, value), (True, False))

    def test_invalid_lasts(self):
        for value in ([], None, [0]):
            self.refuses_all(InvalidLasts, NO_LASTS, lambda lasts: is_past(CHAIN, lasts, value))


class OrderTest(Case):
    def test_sure_order(self):
        self.agree(sure_order(CHAIN, [0, 1, 1, None]), [(0, 1), (0, 2)])
        self.agree(sure_order(net=CHAIN, lasts=(0, 1, 2, 2)), [(0, 1), (0, 2), (0, 3), (1, 2), (1, 3)])
        self.agree([sure_order(CHAIN, [0, 0, 2, 2]), sure_order(CHAIN, FRESH), sure_order(EMPTY, [None] * 2)], [[]] * 3)
        self.new_each_time(lambda: sure_order(CHAIN, [0, 1, 1, None]))

    def test_shortest_pasts_have_that_order(self):
        for net, lasts, pasts in true_lasts():
            nodes = [node for node in range(net.nodes) if lasts[node] is not None]
            wanted = [(node, other) for node in nodes for other in nodes if lasts[node] != lasts[other]
                      and all(latest(net, past, node) < latest(net, past, other) for past in pasts)]
            self.agree(sure_order(net, lasts), wanted)

    def test_longer_pasts_have_it_too(self):
        for net in (ROW, TRIANGLE):
            for past, lasts in judge.all_rows(net, 5):
                for node, other in sure_order(net, lasts):
                    self.assertLess(latest(net, past, node), latest(net, past, other))


class PastWithTest(Case):
    def test_past_with(self):
        self.agree(past_with(CHAIN, [0, 0, 2, 2], 3, 1), [2, 0])
        self.agree(past_with(net=CHAIN, lasts=(0, 0, 2, 2), node=0, other=2), [0, 2])
        self.new_each_time(lambda: past_with(CHAIN, [0, 0, 2, 2], 3, 1))

    def test_never_ahead(self):
        self.refuses(NeverAhead, {"way": [0, 1, 2]}, past_with, CHAIN, [0, 1, 1, None], 2, 0)
        self.refuses(NeverAhead, {"way": [0, 1]}, past_with, CHAIN, [0, 0, None, None], 1, 0)
        self.refuses(NeverAhead, {"way": [1, 0]}, past_with, CHAIN, [0, 0, None, None], 0, 1)
        self.refuses(NeverAhead, {"way": [1]}, past_with, CHAIN, [0, 0, None, None], 1, 1)
        self.refuses(NeverAhead, {"way": [2]}, past_with, OWNS, [None, None, 2, None], 2, 2)

    def test_all_small_lasts(self):
        for net, lasts, pasts in true_lasts():
            for node in range(net.nodes):
                for other in range(net.nodes):
                    if lasts[node] is not None and lasts[other] is not None:
                        self.judge_pair(net, lasts, pasts, node, other)

    def judge_pair(self, net, lasts, pasts, node, other):
        right = [past for past in pasts if latest(net, past, node) < latest(net, past, other)]
        if right:
            found = past_with(net, lasts, node, other)
            self.assertIn(found, right)
            self.agree(past_with(net, list(lasts), node, other), found)
            return
        with self.assertRaises(NeverAhead) as caught:
            past_with(net, lasts, node, other)
        way = caught.exception.way
        self.assertIs(type(way), list)
        self.assertEqual([way[0], way[-1], len(set(way))], [other, node, len(way)])
        seen = looks(net, lasts)
        self.assertEqual([seen[one] for one in way[:-1]], way[1:])

    def test_refusals(self):
        self.refuses_all(InvalidLasts, NO_LASTS, lambda lasts: past_with(CHAIN, lasts, 0, 1))
        self.refuses_all(InvalidNode, no_nodes_of(CHAIN), lambda node: past_with(CHAIN, FRESH, node, 1))
        self.refuses_all(InvalidNode, no_nodes_of(CHAIN), lambda node: past_with(CHAIN, FRESH, 0, node))
        self.refuses(FalseLasts, {"reason": ("bare", 0)}, past_with, CHAIN, [0, None, None, None], 0, 1)
        self.refuses(FalseLasts, {"reason": ("circle", [(0, 0), (1, 1)])}, past_with, PAIR, [0, 1], 0, 1)
        self.refuses(NoLast, {"node": 3}, past_with, CHAIN, [0, 1, 1, None], 3, 0)
        self.refuses(NoLast, {"node": 3}, past_with, CHAIN, [0, 1, 1, None], 0, 3)
        self.refuses(NoLast, {"node": 3}, past_with, CHAIN, [None, 1, 1, None], 3, 0)
        self.refuses(NoLast, {"node": 0}, past_with, CHAIN, [None, 1, 1, None], 0, 0)

    def test_the_order_of_errors(self):
        self.refuses(InvalidLasts, {"given": [None]}, past_with, CHAIN, [None], 9, 8)
        self.refuses(InvalidNode, {"given": 9}, past_with, CHAIN, [0, None, None, None], 9, 8)
        self.refuses(InvalidNode, {"given": 8}, past_with, CHAIN, [0, None, None, None], 1, 8)
        self.refuses(FalseLasts, {"reason": ("bare", 0)}, past_with, CHAIN, [0, None, None, None], 1, 1)
        self.refuses(NoLast, {"node": 2}, past_with, CHAIN, [0, 0, None, None], 2, 2)


if __name__ == "__main__":
    unittest.main()
