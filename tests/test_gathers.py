"""Points [8] and [144] to [147]: ways and gatherings in a tree, longest days, ledgers and tolls."""

import random
import unittest

from otherfirst.errors import Barred, InvalidLasts, InvalidNode, InvalidSchedule, InvalidTask, NotPlain, NotTree, Stopped
from otherfirst.gathers import gathering, ledger, longest, longest_day, toll, way
from otherfirst.heads import tops
from otherfirst.nets import Net
from otherfirst.stories import forest_ring, is_forest_ring
from tests import judge
from tests.helpers import PAIR, TRIANGLE, Case, lasts_of, no_lasts_of, no_nodes_of, no_schedules_of
from tests.helpers import no_tasks_of, random_lasts, random_plain, random_tree, random_trees

LINE = Net(4, [((0, True), (1, True)), ((1, True), (2, True)), ((2, True), (3, True))])
STAR = Net(4, [((0, True), (1, True)), ((0, True), (2, True)), ((0, True), (3, True))])
ALONE = Net(1, [])
FRESH = [None] * 4
APART = Net(4, [((0, True), (2, True)), ((1, True), (3, True))])
# A ring and a part of its own, so that both reasons are at hand.
RINGED = Net(4, list(PAIR.tasks) + [((2, True), (3, True))])
# A ring and a task that is not minded.
UNMINDED = Net(4, list(PAIR.tasks) + [((2, True), (3, False))])


def gathering_by_words(net, lasts, node):
    total = 0
    for other in range(net.nodes):
        tasks = judge.way(net, other, node)
        if tasks and lasts[other] != tasks[0]:
            total += len(tasks)
    return total


def cases(seed, number, most_nodes=5, step=1):
    """Tuples of a tree, lasts of it, true or not, and a search."""
    found = []
    for net in [LINE, STAR, ALONE] + random_trees(seed, number, most_nodes):
        search = judge.Endless(net)
        found += [(net, lasts, search) for lasts in lasts_of(net, sound=False)[::step]]
    return found


class StageTest(Case):
    """What all functions of the stage ask for, in order."""

    CALLS = [lambda net, lasts: gathering(net, lasts, None), longest, longest_day, lambda net, lasts: toll(net, lasts, None),
             lambda net, lasts: ledger(net, lasts, None, None)]

    def test_lasts_then_a_plain_net_then_a_tree(self):
        for call in self.CALLS:
            self.refuses_all(InvalidLasts, no_lasts_of(TRIANGLE), lambda lasts: call(TRIANGLE, lasts))
            self.refuses(InvalidLasts, {"given": [0] * 4}, call, UNMINDED, [0] * 4)
            self.refuses(NotPlain, {"task": 2}, call, UNMINDED, FRESH)
            self.refuses(NotTree, {"reason": ("apart", 1)}, call, APART, FRESH)
            for net in (PAIR, TRIANGLE, RINGED):
                ring = forest_ring(net)
                self.refuses(NotTree, {"reason": ("ring", ring)}, call, net, [None] * net.nodes)
                self.assertTrue(is_forest_ring(net, ring))
        self.refuses(NotPlain, {"task": 2}, way, UNMINDED, None, None)
        self.refuses(NotTree, {"reason": ("apart", 1)}, way, APART, None, None)
        self.refuses(NotTree, {"reason": ("ring", forest_ring(RINGED))}, way, RINGED, None, None)
        self.refuses(NotTree, {"reason": ("apart", 1)}, way, Net(2, []), 0, 0)

    def test_not_a_tree(self):
        rng = random.Random(1)
        seen = set()
        for _ in range(300):
            net = random_plain(rng, 5, 6)
            rings = judge.rings_of_nodes(net)
            apart = [node for node in range(net.nodes) if node not in judge.walked(net, 0)]
            if rings or apart:
                with self.assertRaises(NotTree) as caught:
                    longest(net, [None] * net.nodes)
                word, what = caught.exception.reason
                seen.add(word)
                if rings:
                    self.assertEqual(word, "ring")
                    self.assertIn(what, rings)
                else:
                    self.agree(caught.exception.reason, ("apart", apart[0]))
            else:
                self.agree(type(longest(net, [None] * net.nodes)), tuple)
        self.assertEqual(len(seen), 2)

    def test_new_rings(self):
        def ring():
            with self.assertRaises(NotTree) as caught:
                way(RINGED, 0, 1)
            return caught.exception.reason[1]
        self.new_each_time(ring)


class WayTest(Case):
    def test_a_search_agrees(self):
        for net in random_trees(2, 60, 8):
            for node in range(net.nodes):
                for other in range(net.nodes):
                    self.agree(way(net, node, other), judge.way(net, node, other))

    def test_way(self):
        self.agree([way(net=LINE, node=3, other=0), way(LINE, 0, 3), way(LINE, 2, 2), way(ALONE, 0, 0)],
                   [[2, 1, 0], [0, 1, 2], [], []])
        self.new_each_time(lambda: way(LINE, 3, 0))
        self.new_each_time(lambda: way(LINE, 3, 3))

    def test_refusals(self):
        self.refuses_all(InvalidNode, no_nodes_of(LINE), lambda node: way(LINE, node, None))
        self.refuses_all(InvalidNode, no_nodes_of(LINE), lambda node: way(LINE, 0, node))


class GatheringTest(Case):
    def test_by_words(self):
        for net, lasts, _ in cases(3, 30, step=3):
            for node in range(net.nodes):
                self.agree(gathering(net, lasts, node), gathering_by_words(net, lasts, node))

    def test_gathering(self):
        self.agree([gathering(net=LINE, lasts=FRESH, node=0), gathering(LINE, (0, 0, 2, 2), 0), gathering(ALONE, [None], 0)],
                   [6, 2, 0])
        self.refuses_all(InvalidNode, no_nodes_of(LINE), lambda node: gathering(LINE, FRESH, node))
        self.unchanged(gathering, LINE, [0, 0, None, None], 2)


class LongestTest(Case):
    def test_a_search_of_all_days_agrees(self):
        # Also from lasts that no runs leave.
        bare = 0
        for net, lasts, search in cases(4, 40):
            most = max(search.lengths(lasts))
            sums = [gathering_by_words(net, lasts, node) for node in range(net.nodes)]
            self.agree(longest(net, lasts), (most, sums.index(most)))
            self.agree(min(sums), most)
            self.agree(sum(tops(net, lasts)), most)
            day = longest_day(net, lasts)
            self.agree([type(day), len(day)], [list, most])
            self.assertIsNotNone(search.reached(lasts, day))
            self.agree(longest_day(net, tuple(lasts)), day)
            bare += any(last is not None and lasts[net.far(last, node)] is None for node, last in enumerate(lasts))
        self.assertGreater(bare, 200)

    def test_longest(self):
        self.agree([longest(net=LINE, lasts=FRESH), longest(LINE, (None, 1, 1, None)), longest(STAR, FRESH),
                    longest(ALONE, [None])], [(4, 1), (3, 1), (3, 0), (0, 0)])
        self.agree([longest_day(ALONE, [None]), longest_day(net=LINE, lasts=[0, 1, 1, 2])], [[], []])
        self.new_each_time(lambda: longest_day(LINE, FRESH))
        self.unchanged(longest_day, LINE, [0, 0, None, None])

    def test_great_trees(self):
        row = Net(24, [((node, True), (node + 1, True)) for node in range(23)])
        self.agree(longest(row, [None] * 24), (144, 11))
        rng = random.Random(5)
        for net in [row] + [random_tree(rng, 24) for _ in range(20)]:
            for lasts in ([None] * 24, random_lasts(rng, net)):
                number, node = longest(net, lasts)
                self.agree(number, gathering_by_words(net, lasts, node))
                day = longest_day(net, lasts)
                self.agree(len(day), number)
                self.assertIsNotNone(judge.Endless(net).reached(lasts, day))


class LedgerTest(Case):
    def test_it_tells_how_the_gathering_falls(self):
        rng = random.Random(6)
        stopped = 0
        for net, lasts, search in cases(7, 30, step=4):
            for _ in range(3):
                schedule = [rng.randrange(len(net)) for _ in range(rng.randint(0, 4))] if len(net) else []
                node = rng.randrange(net.nodes)
                fallen = []
                now = tuple(lasts)
                for at, task in enumerate(schedule):
                    if task not in search.moves(now):
                        self.refuses(Stopped, {"at": at, "reached": now}, ledger, net, lasts, schedule, node)
                        stopped += 1
                        break
                    later = search.behind(now, task)
                    fallen.append(gathering_by_words(net, now, node) - gathering_by_words(net, later, node))
                    now = later
                else:
                    self.agree(ledger(net, lasts, schedule, node), fallen)
                    self.agree(ledger(net, tuple(lasts), tuple(schedule), node), fallen)
        self.assertGreater(stopped, 200)

    def test_each_run_by_the_words(self):
        # The nearer end is the node itself, looked towards it, or did not.
        self.agree(ledger(net=LINE, lasts=FRESH, schedule=[2], node=2), [1])
        self.agree(ledger(LINE, [None, 0, None, None], [1], 0), [1])
        self.agree(ledger(LINE, FRESH, [2], 0), [3])
        self.agree([ledger(LINE, FRESH, [1, 0, 2, 1], 1), ledger(LINE, FRESH, [0, 1], 2), ledger(ALONE, [None], [], 0)],
                   [[1, 1, 1, 1], [2, 1], []])
        self.new_each_time(lambda: ledger(LINE, FRESH, [0, 1], 2))
        self.unchanged(ledger, LINE, [None] * 4, [0, 1], 2)

    def test_no_day_goes_on_for_four_hundred_runs(self):
        row = Net(24, [((node, True), (node + 1, True)) for node in range(23)])
        day = longest_day(row, [None] * 24)
        self.agree(ledger(row, [None] * 24, day, 11), [1] * 144)
        reached = judge.Endless(row).reached((None,) * 24, day)
        self.refuses(Stopped, {"at": 144, "reached": reached}, ledger, row, [None] * 24, day + [0] * 256, 3)
        self.refuses(InvalidSchedule, {"given": day + [0] * 257}, ledger, row, [None] * 24, day + [0] * 257, 3)

    def test_refusals(self):
        self.refuses_all(InvalidSchedule, no_schedules_of(LINE), lambda schedule: ledger(LINE, FRESH, schedule, None))
        self.refuses_all(InvalidNode, no_nodes_of(LINE), lambda node: ledger(LINE, FRESH, [0, 0], node))
        self.refuses(Stopped, {"at": 1, "reached": (0, 0, None, None)}, ledger, LINE, FRESH, [0, 0, 1], 1)
        self.refuses(Stopped, {"at": 0, "reached": (None, None, None, 2)}, ledger, LINE, [None, None, None, 2], [2], 1)


class TollTest(Case):
    def test_a_search_of_all_days_agrees(self):
        for net, lasts, search in cases(8, 30):
            found = []
            for task in range(len(net)):
                bars = [node for node in net.ends(task) if lasts[node] == task]
                if bars:
                    self.refuses(Barred, {"nodes": bars}, toll, net, lasts, task)
                else:
                    lost = max(search.lengths(lasts)) - 1 - max(search.lengths(search.behind(lasts, task)))
                    self.agree(toll(net, lasts, task), lost)
                    found.append(lost)
            self.assertTrue(found == [] or min(found) == 0)

    def test_toll(self):
        self.agree([toll(net=LINE, lasts=FRESH, task=task) for task in range(3)], [1, 0, 1])
        self.refuses(Barred, {"nodes": [1, 2]}, toll, LINE, (None, 1, 1, None), 1)
        self.refuses(Barred, {"nodes": [3]}, toll, LINE, [None, None, None, 2], 2)
        self.refuses_all(InvalidTask, no_tasks_of(LINE), lambda task: toll(LINE, [0, 0, None, None], task))
        self.unchanged(toll, LINE, [None, 1, None, None], 0)


if __name__ == "__main__":
    unittest.main()
