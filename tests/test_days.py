"""Points [8], [151], [153], [154] and [155]: middles, days and their lengths."""

import itertools
import random
import unittest

from otherfirst.days import day_of, end_of_day, is_day, middles, outward, shortest_day
from otherfirst.errors import InvalidLasts, InvalidNumber, InvalidTask, NoDay, NotPlain, NotTree
from otherfirst.gathers import longest, way
from otherfirst.nets import Net
from otherfirst.stories import forest_ring
from tests import judge
from tests.helpers import EMPTY, LONG, PAIR, TRIANGLE, Case, any_values, lasts_of, no_lasts_of, no_tasks_of
from tests.helpers import random_lasts, random_plain, random_tree, random_trees
from tests.test_gathers import ALONE, APART, FRESH, LINE, RINGED, STAR, UNMINDED

NO_COUNTS = [None, True, False, -1, -LONG, "", "0", [], [0], (0,), {}, 0.0, 1.0, LINE]


def refuse_other_nets(case, call):
    """What every function of the stage asks for ahead of all else."""
    case.refuses(NotPlain, {"task": 2}, call, UNMINDED)
    case.refuses(NotPlain, {"task": 0}, call, Net(1, [((0, True),)]))
    case.refuses(NotTree, {"reason": ("ring", forest_ring(RINGED))}, call, RINGED)
    case.refuses(NotTree, {"reason": ("apart", 1)}, call, APART)


def trees(seed, number, most_nodes=6):
    return [LINE, STAR, ALONE] + random_trees(seed, number, most_nodes)


def fresh(net):
    return (None,) * net.nodes


class MiddlesTest(Case):
    def test_by_words(self):
        seen = set()
        for net in trees(1, 80, 9):
            sums = [sum(len(judge.way(net, node, other)) for other in range(net.nodes)) for node in range(net.nodes)]
            wanted = [node for node in range(net.nodes) if sums[node] == min(sums)]
            self.agree(middles(net), wanted)
            seen.add(len(wanted))
            if len(wanted) == 2:
                self.agree(len(way(net, *wanted)), 1)
            through = [0] * net.nodes
            for node in range(net.nodes):
                at = node
                through[at] += 1
                for task in judge.way(net, node, wanted[0]):
                    at = net.far(task, at)
                    through[at] += 1
            self.agree(outward(net), through)
        self.assertEqual(seen, {1, 2})

    def test_middles(self):
        self.agree([middles(net=LINE), middles(STAR), middles(ALONE)], [[1, 2], [0], [0]])
        self.agree([outward(net=LINE), outward(STAR), outward(ALONE)], [[1, 4, 2, 1], [4, 1, 1, 1], [1]])
        self.new_each_time(lambda: middles(LINE))
        self.new_each_time(lambda: outward(LINE))
        refuse_other_nets(self, middles)
        refuse_other_nets(self, outward)


class IsDayTest(Case):
    def test_all_small_lists(self):
        right = 0
        rng = random.Random(2)
        nets = [LINE, STAR, PAIR, TRIANGLE, ALONE, EMPTY, APART, RINGED] + [random_plain(rng, 4, 3) for _ in range(12)]
        for net in nets:
            search = judge.Endless(net)
            for lasts in lasts_of(net, sound=False)[::2]:
                for length in range(5):
                    for value in itertools.product(range(len(net)), repeat=length):
                        reached = search.reached(lasts, value)
                        wanted = reached is not None and search.moves(reached) == []
                        self.agree(is_day(net, lasts, value), wanted)
                        right += wanted
        self.assertGreater(right, 80)

    def test_all_lists_of_the_right_lengths_in_trees(self):
        for net in trees(3, 12, 4):
            search = judge.Endless(net)
            for lasts in lasts_of(net, sound=False)[::5]:
                for length in search.lengths(lasts):
                    for day in search.days(lasts, length):
                        self.agree([is_day(net, lasts, day), is_day(net, list(lasts), tuple(day))], [True, True])
                        self.agree([is_day(net, lasts, day[:-1]) for _ in day[:1]], [False] * len(day[:1]))

    def test_is_day(self):
        self.agree([is_day(net=LINE, lasts=FRESH, value=[1, 0, 2, 1]), is_day(LINE, FRESH, (0, 1, 2)),
                    is_day(LINE, [0, 0, 2, 2], [1]), is_day(ALONE, [None], []), is_day(EMPTY, [None, None], ())], [True] * 5)
        self.agree([is_day(LINE, FRESH, value) for value in ([1, 0, 2], [1, 1, 0, 2], [1, 0, 2, 1, 1], [0, 2, 1, 1], [])],
                   [False] * 5)
        self.agree([is_day(LINE, [0, 0, 2, 2], []), is_day(LINE, [0, 1, 2, 2], []), is_day(LINE, [0, 1, 2, 2], [0])],
                   [False, True, False])
        # In any plain net: where a circle of lasts bars all, and where nothing ever ends.
        self.agree([is_day(TRIANGLE, [0, 1, 2], []), is_day(TRIANGLE, [0, 0, 2], [])], [True, False])
        self.agree(is_day(PAIR, [None, None], [0, 1] * 300), False)
        self.agree([is_day(APART, FRESH, [1, 0]), is_day(APART, FRESH, [1])], [True, False])
        self.unchanged(is_day, LINE, FRESH, [1, 0, 2, 1])

    def test_wrong_items(self):
        for value in [[1, 0, 2, True], [1, False, 2, 1], [1, 0, 2, 1.0], [1, 0, 2, "1"], [1, 0, 2, None], [1, 0, 2, 3],
                      [1, 0, 2, -2], [[1, 0, 2, 1]], [(1,), 0, 2, 1], {}, {"a": 1}, "1021", None, LINE]:
            self.agree(is_day(LINE, FRESH, value), False)
        for value in any_values():
            self.agree(is_day(LINE, FRESH, value), False)
            self.agree(is_day(LINE, FRESH, [1, 0, 2, value]), repr(value) == "1")
            self.agree(is_day(ALONE, [None], value), value in ([], ()))

    def test_refusals(self):
        for value in ([], None):
            self.refuses_all(InvalidLasts, no_lasts_of(TRIANGLE), lambda lasts: is_day(TRIANGLE, lasts, value))
            self.refuses(InvalidLasts, {"given": None}, is_day, UNMINDED, None, value)
            self.refuses(NotPlain, {"task": 2}, is_day, UNMINDED, FRESH, value)


class EndOfDayTest(Case):
    def test_they_are_the_lasts_behind_each_day_with_this_last_task(self):
        seen = 0
        for net in trees(4, 25, 6):
            search = judge.Endless(net)
            ends = [end_of_day(net, task) for task in range(len(net))]
            for lasts in lasts_of(net, sound=False)[::3]:
                for length in search.lengths(lasts) - {0}:
                    for day in search.days(lasts, length)[:20]:
                        self.agree(search.reached(lasts, day), ends[day[-1]])
                        seen += 1
        self.assertGreater(seen, 1000)

    def test_end_of_day(self):
        self.agree([end_of_day(net=LINE, task=2), end_of_day(LINE, 0), end_of_day(STAR, 1)],
                   [(0, 1, 2, 2), (0, 0, 1, 2), (1, 0, 1, 2)])
        self.agree(end_of_day(Net(2, [((0, True), (1, True))]), 0), (0, 0))
        self.refuses_all(InvalidTask, no_tasks_of(LINE), lambda task: end_of_day(LINE, task))
        self.refuses(InvalidTask, {"given": 0}, end_of_day, ALONE, 0)
        refuse_other_nets(self, lambda net: end_of_day(net, None))


class ShortestDayTest(Case):
    def test_no_day_is_shorter(self):
        for net in trees(5, 40):
            search = judge.Endless(net)
            self.agree(min(search.lengths(fresh(net))), net.nodes - 1)
            for task in range(len(net)):
                day = shortest_day(net, task)
                self.agree([type(day), len(day), day[-1]], [list, net.nodes - 1, task])
                self.assertIn(day, search.days(fresh(net), net.nodes - 1))
                self.agree(is_day(net, fresh(net), day), True)

    def test_shortest_day(self):
        self.agree(shortest_day(net=LINE, task=2), [0, 1, 2])
        rng = random.Random(6)
        for net in [random_tree(rng, 24) for _ in range(20)]:
            task = rng.randrange(23)
            day = shortest_day(net, task)
            self.agree([len(day), day[-1], is_day(net, fresh(net), day)], [23, task, True])
        self.new_each_time(lambda: shortest_day(LINE, 1))

    def test_refusals(self):
        self.refuses_all(InvalidTask, no_tasks_of(LINE), lambda task: shortest_day(LINE, task))
        self.refuses(InvalidTask, {"given": 0}, shortest_day, ALONE, 0)
        refuse_other_nets(self, lambda net: shortest_day(net, None))


class DayOfTest(Case):
    def test_a_search_of_all_days_agrees(self):
        for net in trees(7, 60):
            lengths = judge.Endless(net).lengths(fresh(net))
            least, most = min(lengths), max(lengths)
            self.agree([sorted(lengths), least], [list(range(least, most + 1)), net.nodes - 1])
            for number in range(most + 4):
                if number in lengths:
                    self.check(net, number)
                else:
                    self.refuses(NoDay, {"least": least, "most": most}, day_of, net, number)

    def check(self, net, number):
        day = day_of(net, number)
        self.agree([type(day), len(day)], [list, number])
        search = judge.Endless(net)
        self.agree(search.moves(search.reached(fresh(net), day)), [])
        self.agree(day_of(Net(net.nodes, list(net.tasks)), number), day)

    def test_great_trees(self):
        rng = random.Random(8)
        row = Net(24, [((node, True), (node + 1, True)) for node in range(23)])
        star = Net(24, [((0, True), (node, True)) for node in range(1, 24)])
        for net in [row, star] + [random_tree(rng, rng.randint(12, 24)) for _ in range(12)]:
            most = longest(net, fresh(net))[0]
            for number in range(net.nodes - 1, most + 1):
                self.check(net, number)
            self.refuses(NoDay, {"least": net.nodes - 1, "most": most}, day_of, net, most + 1)
            self.refuses(NoDay, {"least": net.nodes - 1, "most": most}, day_of, net, net.nodes - 2)

    def test_day_of(self):
        self.agree([day_of(ALONE, 0), len(day_of(net=LINE, number=4)), day_of(Net(2, LINE.tasks[:1]), 1)], [[], 4, [0]])
        self.refuses(NoDay, {"least": 3, "most": 4}, day_of, LINE, 5)
        self.refuses(NoDay, {"least": 0, "most": 0}, day_of, ALONE, 1)
        self.refuses(NoDay, {"least": 3, "most": 3}, day_of, STAR, LONG)
        self.new_each_time(lambda: day_of(LINE, 3))
        self.new_each_time(lambda: day_of(ALONE, 0))

    def test_refusals(self):
        self.refuses_all(InvalidNumber, NO_COUNTS, lambda number: day_of(LINE, number))
        refuse_other_nets(self, lambda net: day_of(net, -1))


class LengthsTest(Case):
    def test_days_from_other_lasts_end_like_all_others(self):
        # Also from lasts that no runs leave, a day goes on until nothing can be run.
        rng = random.Random(9)
        for _ in range(60):
            net = random_tree(rng, rng.randint(2, 6))
            lasts = random_lasts(rng, net)
            search = judge.Endless(net)
            for length in search.lengths(lasts):
                day = search.days(lasts, length)[0]
                self.agree(is_day(net, lasts, day), True)


if __name__ == "__main__":
    unittest.main()
