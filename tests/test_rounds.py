"""Points [8], [152] and [156]: rounds, and longest days counted."""

import itertools
import math
import random
import unittest

from otherfirst.days import middles, outward
from otherfirst.gathers import longest
from otherfirst.nets import Net
from otherfirst.rounds import count_longest, is_rounds, longest_rounds
from otherfirst.stories import story_of
from tests import judge
from tests.helpers import Case, any_values, random_tree
from tests.test_days import ALONE, LINE, STAR, fresh, refuse_other_nets, trees

DUO = Net(2, [((0, True), (1, True))])


def all_rounds(net):
    """All rounds of a net."""
    found = []
    for size in range(1, len(net) + 1):
        for tasks in itertools.combinations(range(len(net)), size):
            nodes = [node for task in tasks for node in net.ends(task)]
            if len(nodes) == len(set(nodes)):
                found.append(list(tasks))
    return found


def is_rounds_by_words(net, search, rows):
    return all(row in all_rounds(net) for row in rows) and search.reached(fresh(net), sum(rows, [])) is not None


def most_in(net, number):
    """The most tasks that so many rounds have, by a search of all of them."""
    search = judge.Endless(net)
    best = {fresh(net): 0}
    for _ in range(number):
        later = {}
        for lasts, most in best.items():
            for tasks in all_rounds(net):
                reached = search.reached(lasts, tasks)
                if reached is not None:
                    later[reached] = max(later.get(reached, 0), most + len(tasks))
        if later == {}:
            break
        best = {**best, **{lasts: max(most, best.get(lasts, 0)) for lasts, most in later.items()}}
    return max(best.values())


class IsRoundsTest(Case):
    def test_all_small_lists(self):
        right = 0
        for net in (LINE, STAR, DUO, ALONE):
            search = judge.Endless(net)
            items = [list(row) for size in range(3) for row in itertools.product(range(len(net)), repeat=size)]
            for length in range(4):
                for value in itertools.product(items, repeat=length):
                    wanted = is_rounds_by_words(net, search, list(value))
                    self.agree([is_rounds(net, list(value)), is_rounds(net, tuple(tuple(row) for row in value))], [wanted] * 2)
                    right += wanted
        self.assertGreater(right, 30)

    def test_each_condition_broken_alone(self):
        for value in ([[1], [0, 2], [1]], [(1,), (0, 2), [1]], ((1,), (0, 2)), [], ()):
            self.agree(is_rounds(net=LINE, value=value), True)
        for value in [[[]], [[1], []], [[2, 0]], [[0, 0]], [[0, 1]], [[1], [1]], [[0, 2], [0]], [[0, 2], [2]], [0], [[1], 0],
                      [[1], [0, True]], [[False, 2]], [[True]], [[0, 2.0]], [[3]], [[-1]], [["0"]], [[None]], [[[0]]],
                      [1, 0, 2, 1], {}, None, "1", [{}], [{"a": 0}], [[0, 2], [1], [0, 2], [1]]]:
            self.agree(is_rounds(LINE, value), False)

    def test_any_value(self):
        for value in any_values():
            wanted = value in ([], (), [[0]], [(0,)], ((0,),), [[0, 2]]) and repr(value) not in ("[[False]]", "[[0.0]]")
            self.agree(is_rounds(LINE, value), wanted)
            self.agree(is_rounds(LINE, [[1], [0, value]]), repr(value) == "2")
            self.agree(is_rounds(LINE, [[1], value]), isinstance(value, (list, tuple)) and list(value) == [0]
                       and not isinstance(value[0], bool))

    def test_refusals(self):
        for value in ([], [[0]], None):
            refuse_other_nets(self, lambda net: is_rounds(net, value))


class LongestRoundsTest(Case):
    def check(self, net):
        rows = longest_rounds(net)
        self.agree([type(rows), len(rows), sum(len(row) for row in rows)], [list, net.nodes - 1, longest(net, fresh(net))[0]])
        self.agree([is_rounds(net, rows), [type(row) for row in rows]], [True, [list] * len(rows)])
        self.agree(longest_rounds(Net(net.nodes, list(net.tasks))), rows)
        return rows

    def test_no_fewer_rounds_have_as_many_tasks(self):
        for net in trees(1, 25, 5):
            rows = self.check(net)
            search = judge.Endless(net)
            self.assertTrue(is_rounds_by_words(net, search, rows))
            most = max(search.lengths(fresh(net)))
            self.agree(most_in(net, net.nodes - 1), most)
            if net.nodes > 1:
                self.assertLess(most_in(net, net.nodes - 2), most)

    def test_great_trees(self):
        rng = random.Random(2)
        row = Net(24, [((node, True), (node + 1, True)) for node in range(23)])
        star = Net(24, [((0, True), (node, True)) for node in range(1, 24)])
        for net in [row, star] + [random_tree(rng, rng.randint(7, 24)) for _ in range(60)]:
            self.check(net)

    def test_longest_rounds(self):
        self.agree([longest_rounds(net=LINE), longest_rounds(ALONE), longest_rounds(DUO)], [[[1], [0, 2], [1]], [], [[0]]])
        self.new_each_time(lambda: longest_rounds(LINE))
        self.new_each_time(lambda: longest_rounds(LINE)[1])
        refuse_other_nets(self, longest_rounds)


class CountLongestTest(Case):
    def test_a_search_of_all_longest_days_agrees(self):
        most = 0
        for net in trees(3, 25, 5):
            search = judge.Endless(net)
            length = max(search.lengths(fresh(net)))
            days = search.days(fresh(net), length)
            told = {story_of(net, day) for day in days}
            self.agree(count_longest(net), len(told))
            most = max(most, len(told))
            # Each task is run as often as there are nodes behind it, seen from the least middle.
            middle = middles(net)[0]
            for day in days:
                for node in range(net.nodes):
                    if node != middle:
                        self.agree(day.count(judge.way(net, node, middle)[0]), outward(net)[node])
        self.assertGreater(most, 20)

    def test_count_longest(self):
        self.agree([count_longest(net=LINE), count_longest(STAR), count_longest(ALONE), count_longest(DUO)], [1, 6, 1, 1])
        star = Net(24, [((0, True), (node, True)) for node in range(1, 24)])
        self.agree(count_longest(star), math.factorial(23))
        row = Net(24, [((node, True), (node + 1, True)) for node in range(23)])
        self.agree(count_longest(row), 1)
        # Three arms of two nodes each: each arm twice from the middle, no arm twice running.
        arms = Net(7, [((0, True), (node, True)) for node in (1, 2, 3)] + [((node, True), (node + 3, True)) for node in (1, 2, 3)])
        orders = [order for order in set(itertools.permutations((0, 0, 1, 1, 2, 2)))
                  if all(one != other for one, other in zip(order, order[1:]))]
        self.agree(count_longest(arms), len(orders))
        refuse_other_nets(self, count_longest)


if __name__ == "__main__":
    unittest.main()
