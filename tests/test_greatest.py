"""Points [8], [91], [92], [93] and [97]: greatest loads and their reasons."""

import itertools
import unittest

from otherfirst.errors import Circled, InvalidBounds, InvalidLasts, InvalidNumber, InvalidTask, NotThatOften
from otherfirst.greatest import greatest, is_greatest, is_reasons, level, reasons
from otherfirst.nets import Net
from tests import judge
from tests.helpers import EMPTY, LONG, PAIR, ROW, TRIANGLE, Case, any_values, lasts_of, no_lasts_of, no_loads_of
from tests.helpers import no_tasks_of, small_nets

NET = Net(3, [((0, True), (1, True)), ((0, True), (1, True)), ((1, True), (2, True)), ((2, False),)])
CHAIN = Net(3, [((0, True), (1, True)), ((1, True), (2, True)), ((2, False),)])
FRESH = [None, None, None]
NO_COUNTS = [None, True, False, -1, -LONG, "", "0", [], [0], (0,), {}, 0.0, 1.0, NET]
TOLD = [(3, 9, None), (0, 1, None), (1, 2, 0), (2, 4, 1)]


def cases(seed, number, most=2, sound=True):
    """Tuples of a net, lasts and bounds."""
    found = []
    for net in small_nets(seed, number):
        for lasts in lasts_of(net, sound)[::2]:
            found += [(net, lasts, bounds) for bounds in judge.within([most] * len(net))[::5]]
    return found


def most_of_each(net, lasts, bounds):
    """For each task the most of it in any load within the bounds that can be done."""
    loads = [load for load in judge.within(bounds) if judge.done(net, load, lasts)]
    return tuple(max(load[task] for load in loads) for task in range(len(net)))


def is_greatest_by_words(net, lasts, bounds, load):
    if any(load[task] > bounds[task] for task in range(len(net))) or not judge.done(net, load, lasts):
        return False
    return all(load[task] == bounds[task] or 0 in [judge.slack(net, load, lasts, task, node)
                                                   for node, minds in net.tasks[task] if minds]
               for task in range(len(net)))


def is_reasons_by_words(net, lasts, bounds, rows):
    """The words of point [93], for a list of tuples of a task, a count and None or a node of the net."""
    if sorted(row[0] for row in rows) != list(range(len(net))):
        return False
    values = {task: value for task, value, _ in rows}
    for at, (task, value, node) in enumerate(rows):
        if node is None:
            if value != bounds[task]:
                return False
            continue
        others = [other for other, ends in enumerate(net.tasks) if other != task and node in [end for end, _ in ends]]
        if (node, True) not in net.tasks[task] or not set(others) <= {row[0] for row in rows[:at]}:
            return False
        if value != sum(values[other] for other in others) + 1 - (1 if lasts[node] == task else 0):
            return False
    load = [values[task] for task in range(len(net))]
    return all(load[task] <= bounds[task] for task in range(len(net))) and judge.often(net, load, lasts) == []


class GreatestTest(Case):
    def test_a_search_of_all_loads_finds_the_same(self):
        lower = 0
        for net, lasts, bounds in cases(91, 25):
            wanted = most_of_each(net, lasts, bounds)
            self.agree(greatest(net, lasts, bounds), wanted)
            self.assertTrue(judge.done(net, wanted, lasts))
            lower += wanted != bounds
        self.assertGreater(lower, 400)

    def test_greatest(self):
        self.agree(greatest(NET, FRESH, [1, 9, 9, 9]), (1, 2, 4, 9))
        self.agree(greatest(net=NET, lasts=(1, None, None), bounds=(1, 9, 9, 9)), (1, 1, 3, 9))
        self.agree([greatest(EMPTY, [None, None], []), greatest(NET, FRESH, [0] * 4)], [(), (0, 0, 0, 0)])
        self.unchanged(greatest, NET, [None, 0, None], [1, 9, 9, 9])

    def test_great_bounds(self):
        self.agree(greatest(NET, FRESH, [LONG] * 4), (LONG,) * 4)
        self.agree(greatest(NET, FRESH, [LONG, 0, LONG, LONG]), (1, 0, 2, LONG))
        self.agree(greatest(NET, [0, None, None], [LONG - 1, LONG, LONG, 5]), (LONG - 1, LONG, 6, 5))
        pair = Net(2, list(PAIR.tasks) + [((0, True),)])
        self.agree(greatest(pair, [0, 0], [LONG, LONG, LONG]), (LONG, LONG, LONG))
        # Each node allows its next task just as much as its own tasks and the task ahead come to.
        row = Net(24, [((node, True), (node + 1, True)) for node in range(23)]
                  + [((node, False),) for node in range(24)] + [((node, False),) for node in range(24)])
        found = greatest(row, [None] * 24, [LONG] * 23 + [1] * 48)
        self.agree(found[:23], tuple(min(3 * node + 3, 3 * (22 - node) + 3) for node in range(23)))

    def test_refusals(self):
        for call in (greatest, reasons):
            self.refuses_all(InvalidLasts, no_lasts_of(CHAIN), lambda lasts: call(CHAIN, lasts, None))
            self.refuses_all(InvalidBounds, no_loads_of(CHAIN), lambda bounds: call(CHAIN, FRESH, bounds))
            self.refuses(InvalidBounds, {"given": [1]}, call, PAIR, [0, 1], [1])
            self.refuses(Circled, {"circle": [(0, 0), (1, 1)]}, call, PAIR, [0, 1], [0, 0])
            self.refuses(Circled, {"circle": [(0, 0), (1, 1), (2, 2)]}, call, TRIANGLE, [0, 1, 2], [9, 9, 9])


class IsGreatestTest(Case):
    def test_just_one_load_is_whatever_the_lasts(self):
        circled = 0
        for net, lasts, bounds in cases(92, 8, sound=False):
            loads = [load for load in judge.within([3] * len(net)) if is_greatest(net, lasts, bounds, list(load))]
            self.assertEqual(len(loads), 1)
            self.agree(loads[0], most_of_each(net, lasts, bounds))
        for lasts in ([0, 1], [1, 0]):
            for bounds in judge.within([3, 3]):
                found = [load for load in judge.within([3, 3]) if is_greatest(PAIR, lasts, bounds, load)]
                self.agree(found, [most_of_each(PAIR, lasts, bounds)])
                circled += 1
        self.assertEqual(circled, 32)

    def test_by_words(self):
        for net, lasts, bounds in cases(93, 3, sound=False)[::3]:
            for load in judge.within([3] * len(net)):
                self.agree(is_greatest(net, lasts, bounds, load), is_greatest_by_words(net, lasts, bounds, load))

    def test_is_greatest(self):
        for value in ((1, 2, 4, 9), [1, 2, 4, 9]):
            self.agree(is_greatest(net=NET, lasts=FRESH, bounds=[1, 9, 9, 9], value=value), True)
        self.agree([is_greatest(NET, FRESH, [LONG] * 4, [LONG] * 4), is_greatest(EMPTY, [None, None], [], [])],
                   [True, True])
        for value in [(1, 2, 4, 8), (1, 2, 3, 9), (1, 1, 3, 9), (2, 2, 4, 9), (1, 2, 4, 10), (0, 1, 2, 9), (True, 2, 4, 9),
                      (1, 2, 4), (1, 2, 4, 9, 0), [None] * 4, None, (1, 2, 5, 9), [1, 2, 4, 9.0], [[1, 2, 4, 9]]]:
            self.agree(is_greatest(NET, FRESH, [1, 9, 9, 9], value), False)

    def test_any_value(self):
        for value in any_values():
            self.agree(is_greatest(NET, FRESH, [1, 9, 9, 9], value), False)
            self.agree(is_greatest(EMPTY, [None, None], [], value), value in ([], ()))

    def test_refusals(self):
        for value in (None, [0, 0, 0]):
            self.refuses_all(InvalidLasts, no_lasts_of(CHAIN), lambda lasts: is_greatest(CHAIN, lasts, None, value))
            self.refuses_all(InvalidBounds, no_loads_of(CHAIN), lambda bounds: is_greatest(CHAIN, FRESH, bounds, value))


class ReasonsTest(Case):
    def test_the_values_are_the_greatest_load(self):
        for net, lasts, bounds in cases(94, 20):
            found = reasons(net, lasts, bounds)
            self.agree(is_reasons(net, lasts, bounds, found), True)
            self.assertTrue(is_reasons_by_words(net, lasts, bounds, found))
            self.agree(tuple(value for _, value, _ in sorted(found, key=lambda row: row[0])),
                       most_of_each(net, lasts, bounds))
            self.agree(reasons(net, list(lasts), list(bounds)), found)

    def test_reasons(self):
        self.agree(is_reasons(NET, FRESH, [1, 9, 9, 9], reasons(net=NET, lasts=FRESH, bounds=[1, 9, 9, 9])), True)
        self.agree(reasons(EMPTY, [None, None], []), [])
        self.agree(reasons(Net(1, [((0, True),)]), [None], [LONG]), [(0, 1, 0)])
        self.agree(reasons(Net(1, [((0, True),)]), [0], [LONG]), [(0, 0, 0)])
        self.agree(reasons(Net(1, [((0, False),)]), [None], [LONG]), [(0, LONG, None)])
        self.new_each_time(lambda: reasons(NET, FRESH, [1, 9, 9, 9]))
        self.unchanged(reasons, NET, [None, 0, None], [1, 9, 9, 9])

    def test_a_hundred_tasks(self):
        net = Net(24, [((node % 23, True), (node % 23 + 1, True)) for node in range(100)])
        for bounds in ([LONG - task for task in range(100)], [task * task % 7 for task in range(100)],
                       [LONG if task % 4 else 1 for task in range(100)]):
            found = reasons(net, [None] * 24, bounds)
            self.agree(is_reasons(net, [None] * 24, bounds, found), True)
            self.agree(is_greatest(net, [None] * 24, bounds, greatest(net, [None] * 24, bounds)), True)


class IsReasonsTest(Case):
    def test_all_lists_of_a_small_net(self):
        right = 0
        nets = [PAIR, Net(2, [((0, True), (1, False)), ((0, True),)]), Net(1, [((0, True),), ((0, False),)])]
        for net in nets:
            for lasts in lasts_of(net, sound=False):
                for bounds in judge.within([3, 2]):
                    right += self.judge_all(net, lasts, bounds)
        self.assertGreater(right, 200)

    def judge_all(self, net, lasts, bounds):
        right = 0
        items = list(itertools.product(range(2), range(4), [None] + list(range(net.nodes))))
        for rows in itertools.product(items, repeat=2):
            wanted = is_reasons_by_words(net, lasts, bounds, rows)
            self.agree(is_reasons(net, lasts, bounds, list(rows)), wanted)
            right += wanted
        return right

    def test_each_condition_broken_alone(self):
        self.agree([is_reasons(NET, FRESH, [1, 9, 9, 9], value) for value in (TOLD, tuple(TOLD))], [True, True])
        for value in [
            TOLD[:-1], TOLD + TOLD[:1], TOLD[:3] + [(2, 4, 1), (2, 4, 1)], [TOLD[0], TOLD[0], TOLD[2], TOLD[3]],
            [TOLD[2], TOLD[0], TOLD[1], TOLD[3]], [TOLD[0], TOLD[1], TOLD[3], TOLD[2]],
            [(3, 8, None)] + TOLD[1:], [(3, 10, None)] + TOLD[1:], TOLD[:3] + [(2, 9, None)], TOLD[:3] + [(2, 3, 1)],
            TOLD[:3] + [(2, 5, 1)], TOLD[:3] + [(2, 10, 2)], TOLD[:3] + [(2, 4, 0)], TOLD[:3] + [(2, 4, 3)],
            TOLD[:3] + [(2, 4, -2)], [(3, 9, 2)] + TOLD[1:], TOLD[:3] + [[2, 4, 1]], [[3, 9, None]] + TOLD[1:],
            TOLD[:3] + [(2, 4, True)], TOLD[:2] + [(1, 2, False), (2, 4, 1)], TOLD[:2] + [(True, 2, 0), (2, 4, 1)],
            [TOLD[0], (False, 1, None)] + TOLD[2:], [TOLD[0], (0, True, None)] + TOLD[2:], TOLD[:3] + [(2, 4)],
            TOLD[:3] + [(2, 4, 1, 0)], TOLD[:3] + [(2, 4.0, 1)], TOLD[:3] + [(2, None, 1)], TOLD[:3] + [(None, 4, 1)],
            TOLD[:3] + [(4, 4, 1)], TOLD[:3] + [(-2, 4, 1)], TOLD[:3] + [None], TOLD[:3] + [(2, 4, "1")], [], None,
        ]:
            self.agree(is_reasons(NET, FRESH, [1, 9, 9, 9], value), False)

    def test_the_last_takes_one(self):
        rows = [(3, 9, None), (0, 1, None), (1, 1, 0), (2, 3, 1)]
        self.agree([is_reasons(NET, lasts, [1, 9, 9, 9], rows) for lasts in ([1, None, None], FRESH, [0, None, None])],
                   [True, False, False])

    def test_whatever_the_lasts(self):
        # With a circle these counts are fine, but not the greatest that can be done.
        self.agree(is_reasons(PAIR, [0, 1], [2, 2], [(0, 2, None), (1, 2, None)]), True)
        self.agree(is_greatest(PAIR, [0, 1], [2, 2], [2, 2]), False)

    def test_the_values_are_fine_and_within_the_bounds(self):
        self.agree(is_reasons(PAIR, [None, None], [3, 1], [(1, 1, None), (0, 3, None)]), False)
        self.agree(is_reasons(PAIR, [None, None], [3, 1], [(1, 1, None), (0, 2, 0)]), True)
        self.agree(is_reasons(PAIR, [None, None], [1, 1], [(1, 1, None), (0, 2, 1)]), False)

    def test_any_value(self):
        for value in any_values():
            self.agree(is_reasons(NET, FRESH, [1, 9, 9, 9], value), False)
            self.agree(is_reasons(EMPTY, [None, None], [], value), value in ([], ()))
            for at in range(3):
                item = TOLD[3][:at] + (value,) + TOLD[3][at + 1:]
                self.agree(is_reasons(NET, FRESH, [1, 9, 9, 9], TOLD[:3] + [item]), repr(item) == repr(TOLD[3]))

    def test_refusals(self):
        for value in (None, []):
            self.refuses_all(InvalidLasts, no_lasts_of(CHAIN), lambda lasts: is_reasons(CHAIN, lasts, None, value))
            self.refuses_all(InvalidBounds, no_loads_of(CHAIN), lambda bounds: is_reasons(CHAIN, FRESH, bounds, value))


class LevelTest(Case):
    def test_a_search_of_all_loads_agrees(self):
        for net, lasts, bounds in cases(97, 12)[::2]:
            most = most_of_each(net, lasts, bounds)
            for task in range(len(net)):
                for number in range(most[task] + 1):
                    load = level(net, lasts, bounds, task, number)
                    self.agree([type(load), load[task]], [tuple, number])
                    self.assertTrue(all(load[other] <= bounds[other] for other in range(len(net))))
                    self.assertTrue(judge.done(net, load, lasts))
                for number in (most[task] + 1, bounds[task] + 9):
                    self.refuses(NotThatOften, {"most": most[task]}, level, net, lasts, bounds, task, number)

    def test_level(self):
        self.agree(level(net=NET, lasts=FRESH, bounds=(1, 9, 9, 9), task=3, number=9)[3], 9)
        load = level(NET, FRESH, [LONG] * 4, 1, LONG // 2)
        self.agree([load[1], judge.often(NET, load, FRESH)], [LONG // 2, []])
        self.refuses(NotThatOften, {"most": LONG}, level, NET, FRESH, [LONG] * 4, 0, LONG + 1)
        self.unchanged(level, NET, [None, 0, None], [1, 9, 9, 9], 1, 1)

    def test_refusals(self):
        self.refuses_in_order(level, [("lasts", FRESH, [None] * 4, InvalidLasts), ("bounds", [1, 1, 1], [1], InvalidBounds),
                                      ("task", 0, 3, InvalidTask), ("number", 0, -1, InvalidNumber)], net=CHAIN)
        self.refuses_all(InvalidLasts, no_lasts_of(CHAIN), lambda lasts: level(CHAIN, lasts, [1, 1, 1], 0, 0))
        self.refuses_all(InvalidBounds, no_loads_of(CHAIN), lambda bounds: level(CHAIN, FRESH, bounds, 0, 0))
        self.refuses_all(InvalidTask, no_tasks_of(PAIR), lambda task: level(PAIR, [0, 1], [1, 1], task, -1))
        self.refuses_all(InvalidNumber, NO_COUNTS, lambda number: level(PAIR, [0, 1], [1, 1], 0, number))
        self.refuses(Circled, {"circle": [(0, 0), (1, 1)]}, level, PAIR, [0, 1], [1, 1], 0, 5)


class RowTest(Case):
    def test_a_net_of_own_and_unminded_ends(self):
        self.agree(greatest(ROW, FRESH, [5, 5, 5]), (1, 2, 3))
        self.agree(greatest(ROW, FRESH, [5, 0, 5]), (1, 0, 1))


if __name__ == "__main__":
    unittest.main()
