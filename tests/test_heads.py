"""Points [141], [142] and [143]: plain nets, heads and tops, the core."""

import itertools
import random
import unittest

from otherfirst.errors import Circled, InvalidLasts, InvalidNode, InvalidNumber, InvalidTask, NotAnEnd, NotPlain
from otherfirst.heads import capped, core, heads, off_core, tops
from otherfirst.lasts import circle_of
from otherfirst.nets import Net
from tests import judge
from tests.helpers import EMPTY, LONG, PAIR, TRIANGLE, Case, lasts_of, no_lasts_of, no_nodes_of, no_tasks_of
from tests.helpers import random_lasts, random_plain, random_trees

LINE = Net(4, [((0, True), (1, True)), ((1, True), (2, True)), ((2, True), (3, True))])
# A triangle with one node more.
HUNG = Net(4, [((0, True), (1, True)), ((1, True), (2, True)), ((0, True), (2, True)), ((2, True), (3, True))])
FRESH = [None] * 4
NO_COUNTS = [None, True, False, -1, -LONG, "", "0", [], [0], (0,), {}, 0.0, 1.0, LINE]
# The task in the middle is the first one that is not shared and minded at both ends.
NOT_PLAIN = [(Net(3, [((0, True), (1, True)), odd, ((1, True), (2, True)), ((2, False),)]), 1)
             for odd in (((0, True),), ((1, False),), ((0, False), (1, True)), ((0, True), (2, False)),
                         ((1, False), (2, False)))]


def plain_nets(seed, number):
    rng = random.Random(seed)
    return [LINE, HUNG, PAIR, TRIANGLE, EMPTY] + [random_plain(rng) for _ in range(number)]


def heads_by_words(net, lasts, task, node):
    behind = judge.walked(net, node, task)
    inner = [other for other in range(len(net)) if set(net.ends(other)) <= behind and other != task]
    if net.far(task, node) in behind or len(inner) != len(behind) - 1:
        return None
    number = 0
    for at in behind:
        first = task if at == node else first_task(net, at, node, task)
        number += lasts[at] != first
    return number


def first_task(net, node, goal, without):
    """The first task on the way from a node to another one, without a task, where they are in a tree."""
    for task in net.at(node):
        if task != without:
            ahead = judge.walked(Net(net.nodes, [ends for k, ends in enumerate(net.tasks) if k not in (task, without)]),
                                 net.far(task, node))
            if goal in ahead:
                return task
    raise AssertionError("no way")


def tops_by_words(net, lasts):
    found = []
    for task in range(len(net)):
        pair = [heads_by_words(net, lasts, task, node) for node in net.ends(task)]
        found.append(min((number for number in pair if number is not None), default=None))
    return tuple(found)


def core_by_words(net):
    """The greatest set of nodes each of which is at two tasks or more within it."""
    for size in range(net.nodes, 0, -1):
        for nodes in itertools.combinations(range(net.nodes), size):
            inner = [net.ends(task) for task in range(len(net)) if set(net.ends(task)) <= set(nodes)]
            if all(sum(node in ends for ends in inner) > 1 for node in nodes):
                return list(nodes)
    return []


class HeadsTest(Case):
    def test_walks_over_the_net_agree(self):
        seen = {True: 0, False: 0}
        for net in plain_nets(1, 60):
            for lasts in lasts_of(net, sound=False)[::5]:
                for task in range(len(net)):
                    for node in net.ends(task):
                        wanted = heads_by_words(net, lasts, task, node)
                        self.agree(heads(net, lasts, task, node), wanted)
                        seen[wanted is None] += 1
        self.assertGreater(min(seen.values()), 200)

    def test_heads(self):
        self.agree(heads(net=LINE, lasts=FRESH, task=1, node=1), 2)
        self.agree([heads(LINE, FRESH, 0, 0), heads(LINE, FRESH, 0, 1), heads(LINE, (0, 0, None, None), 1, 1)], [1, 3, 1])
        self.agree([heads(LINE, [0, 1, 1, 2], 1, node) for node in (1, 2)], [0, 0])
        self.agree([heads(LINE, [0, 1, 1, 2], 2, node) for node in (2, 3)], [1, 0])
        self.agree([heads(HUNG, FRESH, task, node) for task, node in ((0, 0), (0, 1), (3, 2), (3, 3))], [None, None, None, 1])
        self.agree([heads(PAIR, [None, None], 0, 0), heads(PAIR, [0, 0], 1, 1)], [None, None])
        self.unchanged(heads, LINE, [0, 0, None, None], 1, 1)

    def test_refusals(self):
        self.refuses_in_order(heads, [("lasts", FRESH, [None], InvalidLasts), ("task", 0, 4, InvalidTask),
                                      ("node", 0, -1, InvalidNode)], net=HUNG)
        self.refuses_all(InvalidTask, no_tasks_of(LINE), lambda task: heads(LINE, FRESH, task, None))
        self.refuses_all(InvalidNode, no_nodes_of(LINE), lambda node: heads(LINE, FRESH, 0, node))
        for task, node in ((0, 2), (0, 3), (2, 0)):
            self.refuses(NotAnEnd, {"task": task, "node": node}, heads, LINE, FRESH, task, node)

    def test_circled_lasts_are_no_error_here(self):
        self.agree([heads(PAIR, [0, 1], 0, 0), heads(TRIANGLE, [0, 1, 2], 0, 1)], [None, None])


class StageTest(Case):
    def test_lasts_and_then_a_plain_net(self):
        calls = [lambda net, lasts: heads(net, lasts, None, None), tops, off_core,
                 lambda net, lasts: capped(net, lasts, None)]
        for call in calls:
            self.refuses_all(InvalidLasts, no_lasts_of(NOT_PLAIN[0][0]), lambda lasts: call(NOT_PLAIN[0][0], lasts))
            self.refuses(InvalidLasts, {"given": None}, call, LINE, None)
            for net, task in NOT_PLAIN:
                self.refuses(NotPlain, {"task": task}, call, net, [None] * 3)
                self.refuses(NotPlain, {"task": task}, core, net)
        # A circle counts behind what is not plain.
        circled = Net(2, list(PAIR.tasks) + [((0, False), (1, True))])
        for call in (tops, off_core, lambda net, lasts: capped(net, lasts, 1)):
            self.refuses(NotPlain, {"task": 2}, call, circled, [0, 1])
            self.refuses(Circled, {"circle": [(0, 0), (1, 1)]}, call, PAIR, [0, 1])
            self.refuses(Circled, {"circle": [(0, 0), (1, 1), (2, 2)]}, call, TRIANGLE, [0, 1, 2])


class TopsTest(Case):
    def test_walks_over_the_net_agree(self):
        for net in plain_nets(2, 60):
            for lasts in lasts_of(net)[::3]:
                self.agree(tops(net, lasts), tops_by_words(net, lasts))

    def test_a_search_of_all_loads_agrees(self):
        # No task can be left more often than its top, and all can be at once; without a top, as often as one likes.
        less = 0
        for net in plain_nets(3, 40):
            for lasts in lasts_of(net)[::7]:
                number = 4 if len(net) < 4 else 3
                loads = [load for load in judge.within([number] * len(net)) if judge.done(net, load, lasts)]
                most = tuple(max(load[task] for load in loads) for task in range(len(net)))
                self.assertIn(most, loads)
                self.agree(most, tuple(number if top is None else min(number, top) for top in tops(net, lasts)))
                self.agree(capped(net, lasts, number), most)
                less += None in tops(net, lasts)
        self.assertGreater(less, 80)

    def test_a_task_has_a_top_if_an_end_is_not_in_the_core(self):
        rng = random.Random(4)
        for _ in range(200):
            net = random_plain(rng, 7, 9)
            lasts = random_lasts(rng, net)
            if circle_of(net, lasts) is None:
                inner = core(net)
                wanted = [all(node in inner for node in net.ends(task)) for task in range(len(net))]
                self.agree([top is None for top in tops(net, lasts)], wanted)

    def test_tops(self):
        self.agree([tops(net=LINE, lasts=FRESH), tops(HUNG, FRESH), tops(HUNG, (None, None, 3, 3))],
                   [(1, 2, 1), (None, None, None, 1), (None, None, None, 0)])
        self.agree([tops(EMPTY, [None, None]), tops(Net(1, []), [None])], [(), ()])
        self.unchanged(tops, LINE, [0, 0, None, None])
        row = Net(24, [((node, True), (node + 1, True)) for node in range(23)])
        self.agree(tops(row, [None] * 24), tuple(min(node + 1, 23 - node) for node in range(23)))


class CappedTest(Case):
    def test_capped(self):
        self.agree([capped(net=HUNG, lasts=FRESH, number=5), capped(HUNG, FRESH, 0), capped(LINE, FRESH, LONG)],
                   [(5, 5, 5, 1), (0, 0, 0, 0), (1, 2, 1)])
        self.agree(capped(HUNG, FRESH, LONG), (LONG, LONG, LONG, 1))
        self.agree([capped(LINE, FRESH, 1), capped(EMPTY, [None, None], LONG)], [(1, 1, 1), ()])
        self.unchanged(capped, LINE, [0, 0, None, None], 3)

    def test_it_can_be_done_whatever_the_number(self):
        rng = random.Random(5)
        for _ in range(200):
            net = random_plain(rng, 8, 12)
            lasts = random_lasts(rng, net)
            if circle_of(net, lasts) is None:
                for number in (1, 2, 7, LONG):
                    self.agree(judge.often(net, capped(net, lasts, number), lasts), [])

    def test_refusals(self):
        self.refuses_all(InvalidNumber, NO_COUNTS, lambda number: capped(LINE, FRESH, number))
        self.refuses(InvalidNumber, {"given": -1}, capped, PAIR, [0, 1], -1)
        self.refuses(Circled, {"circle": [(0, 0), (1, 1)]}, capped, PAIR, [0, 1], 0)


class CoreTest(Case):
    def test_a_search_of_all_sets_of_nodes_agrees(self):
        rng = random.Random(6)
        found = 0
        for _ in range(150):
            net = random_plain(rng, 6, 8)
            self.agree(core(net), core_by_words(net))
            found += 0 < len(core(net)) < net.nodes
        self.assertGreater(found, 20)

    def test_core(self):
        self.agree([core(net=HUNG), core(LINE), core(EMPTY), core(PAIR), core(Net(1, []))], [[0, 1, 2], [], [], [0, 1], []])
        self.new_each_time(lambda: core(HUNG))
        # Two rings and a way between them, whose nodes stay, and a tail, whose nodes do not.
        ties = [(0, 1), (1, 2), (0, 2), (2, 3), (3, 4), (4, 5), (5, 6), (4, 6), (6, 7), (7, 8)]
        self.agree(core(Net(9, [((one, True), (other, True)) for one, other in ties])), [0, 1, 2, 3, 4, 5, 6])
        self.agree([core(tree) for tree in random_trees(7, 20, 9)], [[]] * 20)

    def test_off_core(self):
        self.agree([off_core(net=HUNG, lasts=FRESH), off_core(HUNG, [None, None, 3, 3]), off_core(LINE, FRESH)], [1, 0, 4])
        self.agree([off_core(EMPTY, [None, None]), off_core(PAIR, [0, 0]), off_core(Net(1, []), [None])], [0, 0, 0])

    def test_off_core_is_a_sum_of_ways_to_the_core(self):
        rng = random.Random(8)
        checked = 0
        while checked < 150:
            net = random_plain(rng, 7, 9)
            lasts = random_lasts(rng, net)
            if circle_of(net, lasts) is None:
                self.agree(off_core(net, lasts), sum(top for top in tops(net, lasts) if top is not None))
                inner = core(net)
                if inner and len(inner) < net.nodes and len(judge.walked(net, 0)) == net.nodes:
                    self.agree(off_core(net, lasts), self.ways(net, lasts, inner))
                    checked += 1

    def ways(self, net, lasts, inner):
        """The sum of the lengths of the ways to the core of the nodes that do not look along them."""
        length = {node: 0 for node in inner}
        total = 0
        while len(length) < net.nodes:
            for node in range(net.nodes):
                for task in net.at(node):
                    if node not in length and net.far(task, node) in length:
                        length[node] = length[net.far(task, node)] + 1
                        total += length[node] if lasts[node] != task else 0
        return total


if __name__ == "__main__":
    unittest.main()
