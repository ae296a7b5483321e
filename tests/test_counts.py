"""Points [133] and [134] where the product of a node is near 20000: how many own rows it has, and how soon that is told."""

import itertools
import math
import random
import time
import unittest

from otherfirst.errors import InvalidNode, NotForest, TooMany
from otherfirst.nets import Net
from otherfirst.rows import count_own_rows, own_rows
from otherfirst.states import State
from otherfirst.stories import count_stories, forest_ring, stories
from tests.helpers import TRIANGLE, Case, no_nodes_of, random_states

ISSUE = Net(5, [((0, False),), ((0, False),), ((0, False),)])


def alone(load, minds, last=None):
    """A state of one node; `minds` has a bool for each task."""
    return State(Net(1, [((0, mind),) for mind in minds]), load, [last])


def apart(*states):
    """States of one node each, side by side in one net."""
    tasks = [((node, minds),) for node, state in enumerate(states) for (_, minds), in state.net.tasks]
    return State(Net(len(states), tasks), [left for state in states for left in state.load])


def loads_of(product, most=None):
    """All loads, descending, whose counts, each increased by 1, have this product; no count is 0."""
    most = product if most is None else most
    if product == 1:
        return [()]
    return [(factor - 1,) + load for factor in range(2, min(product, most) + 1) if product % factor == 0
            for load in loads_of(product // factor, factor)]


def ways_to_mind(number):
    """All tasks minded, none, each second one, and each one of the others."""
    return [(True,) * number, (False,) * number, tuple(at % 2 == 0 for at in range(number)),
            tuple(at % 2 == 1 for at in range(number))]


def lasts_of(state):
    return [None] + list(range(len(state.net)))


def slow_count(state):
    """By the words of [133], for all loads up to that of the state: how many orders begin with each task."""
    tasks = [task for task in range(len(state.net)) if state.load[task] > 0]
    minded = [state.net.minds(task, 0) for task in tasks]
    begins = {}
    for load in itertools.product(*[range(state.load[task] + 1) for task in tasks]):
        numbers = [0] * len(tasks)
        for at, left in enumerate(load):
            if left > 0:
                behind = begins[load[:at] + (left - 1,) + load[at + 1:]]
                # Behind the last run there is one order, the empty one.
                numbers[at] = sum(behind) - (behind[at] if minded[at] else 0) if sum(load) > 1 else 1
        begins[load] = numbers
    if sum(state.load) == 0:
        return 1
    return sum(number for task, mind, number in zip(tasks, minded, numbers) if not (mind and task == state.lasts[0]))


class CountTest(Case):
    def test_a_slow_count_agrees_where_the_product_is_just_20000(self):
        rng = random.Random(15)
        loads = loads_of(20000)
        self.assertGreater(len(loads), 100)
        seen = {0: 0, 1: 0}
        for load in [(19, 24, 39), (39, 24, 19), (4,) * 4 + (1,) * 5] + rng.sample(loads, 25):
            minds = [rng.random() < 0.7 for _ in load]
            last = rng.choice([None] + list(range(len(load))))
            state = alone(load, minds, last)
            wanted = slow_count(state)
            self.agree(count_own_rows(state, 0), wanted)
            self.agree(count_stories(state), wanted)
            seen[int(wanted > 0)] += 1
        self.assertGreater(min(seen.values()), 4)

    def test_a_slow_count_agrees_for_each_way_to_mind_and_each_last(self):
        for load in [(), (0,), (1,), (5,), (3, 3), (4, 5), (6, 4), (2, 2, 2), (0, 3, 4), (4, 0, 1, 3), (1, 2, 3, 4),
                     (5, 2, 2, 1), (3, 3, 3, 3), (1, 1, 1, 1, 1)]:
            for minds in itertools.product([False, True], repeat=len(load)):
                for last in lasts_of(alone(load, minds)):
                    state = alone(load, minds, last)
                    self.agree(count_own_rows(state, 0), slow_count(state))

    def test_the_list_has_as_many_as_are_counted(self):
        longest = 0
        for state in random_states(16, 400, most_nodes=2, most_tasks=4, most_left=3, none=0.3):
            for node in range(state.net.nodes):
                count = count_own_rows(state, node)
                if count > 200:
                    self.refuses(TooMany, {"count": count}, own_rows, state, node)
                else:
                    self.assertEqual(len(own_rows(state, node)), count)
                    longest = max(longest, count)
        self.assertGreater(longest, 50)

    def test_minded_tasks(self):
        self.agree(count_own_rows(alone([400], [True]), 0), 0)
        self.agree(own_rows(alone([400], [True]), 0), [])
        self.agree([count_own_rows(alone([1], [True], last), 0) for last in (None, 0)], [1, 0])
        self.agree([count_own_rows(alone([140, 140], [True] * 2, last), 0) for last in (None, 0, 1)], [2, 1, 1])
        self.agree(own_rows(alone([140, 140], [True] * 2, 0), 0), [[1, 0] * 140])
        self.agree([count_own_rows(alone([139, 140], [True] * 2, last), 0) for last in (None, 0, 1)], [1, 1, 0])
        self.agree([count_own_rows(alone([124, 159], [True] * 2, last), 0) for last in (None, 0, 1)], [0, 0, 0])
        self.agree([count_own_rows(alone([19999], [True]), 0), count_own_rows(alone([9999, 1], [True] * 2), 0)], [0, 0])
        # A single run parts the runs of two tasks, or stands at an end.
        self.agree([count_own_rows(alone([99, 99, 1], [True] * 3, last), 0) for last in (None, 0, 1, 2)],
                   [594, 298, 298, 592])
        # A last that is not left bars nothing.
        self.agree(count_own_rows(alone([140, 140, 0], [True] * 3, 2), 0), 2)

    def test_tasks_that_are_not_minded(self):
        for load in [(19, 24, 39), (9999, 1), (1, 9999), (124, 159), (19999,), (1,) * 14, (0, 19999, 0)]:
            wanted = math.factorial(sum(load))
            for left in load:
                wanted //= math.factorial(left)
            for last in (None, 0):
                self.agree(count_own_rows(alone(load, [False] * len(load), last), 0), wanted)
        self.agree(own_rows(alone([400], [False], 0), 0), [[0] * 400])

    def test_minded_and_other_tasks_together(self):
        # No two runs of the minded task go into one gap of the others, and the first gap is not behind its last.
        for free, left in [(199, 99), (124, 159), (159, 124), (9999, 1), (3, 4999), (124, 124), (139, 140), (49, 50)]:
            state = alone([free, left], [False, True])
            self.agree(count_own_rows(state, 0), math.comb(free + 1, left))
            self.agree(count_own_rows(alone([free, left], [False, True], 1), 0), math.comb(free, left))
            self.agree(count_own_rows(alone([free, left], [False, True], 0), 0), math.comb(free + 1, left))
            self.agree(count_own_rows(alone([left, free], [True, False], 0), 0), math.comb(free, left))
        self.agree(len(own_rows(alone([124, 124], [False, True]), 0)), 125)
        self.agree(own_rows(alone([139, 140], [False, True]), 0), [[1] + [0, 1] * 139])


class RefusalsTest(Case):
    def test_products_of_just_20000_and_just_20001(self):
        self.assertEqual(sorted(loads_of(20001)), [(112, 58, 2), (176, 112), (338, 58), (6666, 2), (20000,)])
        for load in loads_of(20001):
            for minds in ways_to_mind(len(load)):
                state = alone(load, minds)
                for call in (lambda one: count_own_rows(one, 0), count_stories):
                    self.refuses(TooMany, {"count": 20001}, call, state)
                # The runs that are left count first where the rows are listed.
                count = sum(load) if sum(load) > 400 else 20001
                for call in (lambda one: own_rows(one, 0), stories):
                    self.refuses(TooMany, {"count": count}, call, state)
        for load in loads_of(20000):
            for minds in ways_to_mind(len(load)):
                state = alone(load, minds, len(load) - 1)
                count = count_own_rows(state, 0)
                self.agree(count_stories(state), count)
                if sum(load) > 400 or count > 200:
                    count = sum(load) if sum(load) > 400 else count
                    self.refuses(TooMany, {"count": count}, own_rows, state, 0)
                    self.refuses(TooMany, {"count": count}, stories, state)
                else:
                    self.assertEqual([len(own_rows(state, 0)), len(stories(state))], [count, count])

    def test_several_nodes(self):
        full, over = alone([19, 24, 39], [True, False, True]), alone([2, 58, 112], [True, True, False])
        none, more = alone([99, 199], [True, True]), alone([150, 150], [True, True])
        count = count_own_rows(full, 0)
        self.assertGreater(count, 200)
        self.agree([count_stories(apart(full, full, full)), count_stories(apart(full, none))], [count ** 3, 0])
        self.refuses(TooMany, {"count": count ** 2}, stories, apart(full, full))
        self.agree(stories(apart(none, full)), [])
        # A product that is too great counts first, also where another node has no own row.
        for states in [(full, over), (over, full), (full, over, full), (alone([40], [True]), over), (over, alone([41], [True]))]:
            for call in (stories, count_stories):
                self.refuses(TooMany, {"count": 20001}, call, apart(*states))
        self.refuses(TooMany, {"count": 20001}, count_stories, apart(none, over, more))
        self.refuses(TooMany, {"count": 151 * 151}, count_stories, apart(none, more, over))
        self.refuses(TooMany, {"count": 298 + 300}, stories, apart(none, more))

    def test_the_other_errors_come_first(self):
        state = alone([20000], [False])
        for call in (own_rows, count_own_rows):
            self.refuses_all(InvalidNode, no_nodes_of(state.net), lambda node: call(state, node))
        self.refuses(NotForest, {"ring": forest_ring(TRIANGLE)}, count_stories, State(TRIANGLE, [140, 141, 140]))


class SoonTest(Case):
    def soon(self, call, *args):
        """The call takes at most 3 milliseconds; moments in which the machine is busy do not count."""
        for _ in range(40):
            start = time.perf_counter()
            try:
                call(*args)
            except TooMany:
                pass
            if time.perf_counter() - start < 0.003:
                return
        self.fail(f"{args[0].line()} takes too long")

    def test_each_count_is_told_soon(self):
        found = [State(ISSUE, [19, 24, 39]), State(ISSUE, [9999, 1, 0])]
        loads = loads_of(20000) + loads_of(19999) + loads_of(19683) + loads_of(19881) + loads_of(16384) + [(400,)]
        for load in loads + [(26,) * 3, (10,) * 4, (1,) * 14 + (0,) * 86]:
            for minds in ways_to_mind(len(load)):
                found += [alone(load, minds), alone(load[::-1], minds), alone(load, minds, len(load) // 2)]
        self.assertGreater(len(found), 1000)
        for state in found:
            self.soon(count_own_rows, state, 0)
            self.soon(count_stories, state)
            count = count_own_rows(state, 0)
            # Where nothing is listed, the count is all that takes time.
            if count == 0 or count > 200:
                self.soon(own_rows, state, 0)
                self.soon(stories, state)


if __name__ == "__main__":
    unittest.main()
