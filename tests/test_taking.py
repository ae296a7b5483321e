"""Points [8] and [81] to [84]: tasks that are taken on."""

import itertools
import unittest

from otherfirst.decide import defect
from otherfirst.errors import Impossible, InvalidLoad, NotAbove, TooMany
from otherfirst.nets import Net
from otherfirst.states import State
from otherfirst.taking import addable, build_of, climb, greater, is_build, removable
from tests import judge
from tests.helpers import EMPTY, LONG, PAIR, ROW, TRIANGLE, Case, all_states, any_values, lasts_of, no_loads_of
from tests.helpers import no_schedules_of, random_states, small_nets

CHAIN = Net(3, [((0, True), (1, True)), ((1, True), (2, True)), ((2, False),)])
FREE = Net(1, [((0, False),)])
BOTH = Net(1, [((0, True),), ((0, True),)])
# Behind a run of the own task less, the two shared ones can be a ring.
OWNED = Net(2, list(PAIR.tasks) + [((0, False),)])
RING = State(TRIANGLE, [1, 1, 1], [0, 1, 2])


def small_states():
    states = all_states(PAIR, 3) + all_states(TRIANGLE, 1) + all_states(OWNED, 1) + random_states(81, 300, most_nodes=3, none=0.2)
    return [state for state in states if state.total() < 8]


def more(load, task, number=1):
    return tuple(left + number if other == task else left for other, left in enumerate(load))


def all_builds(net, load, lasts):
    """All lists of takings that lead from nothing to the load, with fine counts behind each."""
    rows = [((), (0,) * len(net))]
    for _ in range(sum(load)):
        rows = [(row + (task,), more(part, task)) for row, part in rows for task in range(len(net))
                if part[task] < load[task] and judge.often(net, more(part, task), lasts) == []]
    return [list(row) for row, _ in rows]


def leads(net, lasts, start, takings, goal):
    """Whether these takings lead from one load to another one with fine counts behind each."""
    load = tuple(start)
    for task in takings:
        load = more(load, task)
        if judge.often(net, load, lasts):
            return False
    return load == tuple(goal)


class AddableTest(Case):
    def test_addable(self):
        self.agree([addable(State(CHAIN, [1, 2, 1])), addable(state=State(CHAIN, [0, 2, 1]))], [[2], [0]])
        self.agree([addable(State(EMPTY, [])), addable(State(FREE, [LONG]))], [[], [0]])
        self.agree([addable(State(BOTH, [LONG, LONG])), addable(State(BOTH, [LONG, LONG - 1]))], [[0, 1], [1]])
        self.new_each_time(lambda: addable(State(BOTH, [0, 0])))

    def test_whether_or_not_the_counts_are_fine_ahead(self):
        self.agree([addable(State(BOTH, [LONG, LONG - 2])), addable(State(BOTH, [LONG, LONG - 3]))], [[1], []])
        self.agree(addable(State(BOTH, [1, 0], [0])), [1])

    def test_all_small_states(self):
        for state in small_states():
            wanted = [task for task in range(len(state.net))
                      if judge.often(state.net, more(state.load, task), state.lasts) == []]
            self.agree(addable(state), wanted)


class RemovableTest(Case):
    def test_removable(self):
        self.agree([removable(State(CHAIN, [1, 2, 1])), removable(state=State(CHAIN, [1, 1, 1]))], [[1], [0, 1, 2]])
        self.agree([removable(State(EMPTY, [])), removable(State(CHAIN, [0, 0, 0], [0, 1, 1]))], [[], []])
        self.agree(removable(State(BOTH, [LONG, LONG])), [0, 1])
        self.agree(removable(State(BOTH, [LONG, LONG - 1])), [0])
        self.new_each_time(lambda: removable(State(BOTH, [1, 1])))

    def test_a_search_of_all_rows_of_runs_finds_the_same(self):
        rung = 0
        for state in small_states():
            net = state.net
            if judge.done(net, state.load, state.lasts):
                wanted = [task for task in range(len(net)) if state.load[task] > 0
                          and judge.done(net, more(state.load, task, -1), state.lasts)]
                self.agree(removable(state), wanted)
                self.assertEqual(wanted == [], state.total() == 0)
                fine = [task for task in range(len(net)) if state.load[task] > 0
                        and judge.often(net, more(state.load, task, -1), state.lasts) == []]
                rung += fine != wanted
            else:
                self.refuses(Impossible, {"defect": defect(state)}, removable, state)
        # With some of these states a run less closes a ring.
        self.assertGreater(rung, 0)

    def test_refusals(self):
        self.refuses(Impossible, {"defect": ("ring", [(0, 0), (1, 1), (2, 2)])}, removable, RING)
        self.refuses(Impossible, {"defect": ("often", 0, 0)}, removable, State(BOTH, [LONG, 0]))


class BuildTest(Case):
    def test_a_state_can_be_done_exactly_if_it_has_a_build(self):
        for state in small_states():
            if state.total() > 6:
                continue
            builds = all_builds(state.net, state.load, state.lasts)
            self.assertEqual(builds != [], judge.done(state.net, state.load, state.lasts))
            if builds:
                self.assertIn(build_of(state), builds)
            else:
                self.refuses(Impossible, {"defect": defect(state)}, build_of, state)
            if state.total() < 5:
                self.judge_all(state, builds)

    def judge_all(self, state, builds):
        for length in range(state.total() + 2):
            for row in itertools.product(range(len(state.net)), repeat=length):
                if length == state.total() or sum(row) < 3:
                    self.agree(is_build(state, list(row)), list(row) in builds)

    def test_build_of(self):
        self.agree(build_of(State(EMPTY, [])), [])
        self.agree(leads(CHAIN, [None] * 3, [0, 0, 0], build_of(state=State(CHAIN, [1, 2, 1])), [1, 2, 1]), True)
        self.new_each_time(lambda: build_of(State(CHAIN, [1, 2, 1])))

    def test_refusals(self):
        self.refuses(TooMany, {"count": 401}, build_of, State(FREE, [401]))
        self.refuses(TooMany, {"count": 401}, build_of, State(BOTH, [401, 0]))
        self.refuses(Impossible, {"defect": ("often", 0, 0)}, build_of, State(BOTH, [400, 0]))
        self.refuses(Impossible, {"defect": ("ring", [(0, 0), (1, 1), (2, 2)])}, build_of, RING)
        self.agree(build_of(State(FREE, [400])), [0] * 400)

    def test_great_nets(self):
        row = Net(24, [((node, True), (node + 1, True)) for node in range(23)]
                  + [((task * 5 % 24, True),) for task in range(77)])
        for state in (State(row, [4] * 100), State(Net(24, list(row.tasks)[::-1]), [4] * 100)):
            build = build_of(state)
            self.agree(is_build(state, build), True)
            self.agree(leads(state.net, state.lasts, [0] * 100, build, state.load), True)


class IsBuildTest(Case):
    def test_is_build(self):
        state = State(CHAIN, [1, 2, 1])
        self.agree([is_build(state, [0, 1, 2, 1]), is_build(state, (2, 1, 0, 1)), is_build(state, [0, 1, 1, 2]),
                    is_build(state=state, value=[0, 2, 1]), is_build(state, [0, 1, 2, 1, 2])],
                   [True, True, False, False, False])
        self.agree([is_build(State(EMPTY, []), []), is_build(State(EMPTY, []), [0])], [True, False])

    def test_the_lasts_are_those_of_the_state(self):
        self.agree([is_build(State(BOTH, [1, 1], lasts), [0, 1]) for lasts in ([None], [0], [1])], [True, False, True])

    def test_at_most_400_tasks(self):
        self.agree([is_build(State(FREE, [many]), [0] * many) for many in (400, 401)], [True, False])
        self.agree(is_build(State(FREE, [LONG]), [0] * 400), False)

    def test_wrong_ones(self):
        for value in no_schedules_of(ROW) + [[True, 1, 2, 1], [0, 1, 2, True], [False, 1, 2, 1], [[0, 1, 2, 1]]]:
            self.agree(is_build(State(CHAIN, [1, 2, 1]), value), False)

    def test_any_value(self):
        for value in any_values():
            self.agree(is_build(State(CHAIN, [0, 0, 0]), value), value in ([], ()))
            self.agree(is_build(State(FREE, [1]), value), repr(value) in ("[0]", "(0,)"))


class GreaterTest(Case):
    def test_greater(self):
        state = State(CHAIN, [1, 1, 0], [0, 0, None])
        found = greater(state=state, load=(0, 1, LONG))
        self.agree([found.load, found.lasts, found.net == CHAIN], [(1, 1, LONG), (0, 0, None), True])
        self.agree(greater(State(EMPTY, []), []).load, ())
        self.agree(self.unchanged(greater, state, [2, 0, 0]).load, (2, 1, 0))

    def test_if_both_can_be_done_so_can_the_greater_one(self):
        pairs = 0
        for net in small_nets(82, 10):
            for lasts in lasts_of(net, sound=False):
                loads = [load for load in judge.within([1] * len(net)) if judge.done(net, load, lasts)]
                loads += [load for load in judge.within([2] * len(net))[::7] if judge.done(net, load, lasts)]
                for one, other in itertools.combinations(loads[:20], 2):
                    found = greater(State(net, one, lasts), other)
                    self.agree(found.load, tuple(max(a, b) for a, b in zip(one, other)))
                    self.assertTrue(judge.done(net, found.load, lasts))
                    pairs += 1
        self.assertGreater(pairs, 1000)

    def test_refusals(self):
        self.refuses_all(InvalidLoad, no_loads_of(CHAIN), lambda load: greater(State(CHAIN, [1, 1, 0]), load))


class ClimbTest(Case):
    def test_climb(self):
        self.agree(climb(State(CHAIN, [1, 1, 0]), [1, 2, 1]), [2, 1])
        self.agree(climb(state=State(CHAIN, [1, 1, 0]), load=(1, 1, 0)), [])
        self.agree(climb(State(EMPTY, []), []), [])
        self.new_each_time(lambda: climb(State(CHAIN, [1, 1, 0]), [1, 2, 1]))
        self.unchanged(climb, State(CHAIN, [1, 1, 0]), [1, 2, 1])

    def test_all_small_pairs(self):
        found = 0
        for net in small_nets(83, 10):
            for lasts in lasts_of(net, sound=False)[:12]:
                loads = judge.within([2] * len(net))[::2]
                for low, high in itertools.product(loads[:30], loads):
                    found += self.climbs(net, lasts, low, high)
        self.assertGreater(found, 1000)

    def climbs(self, net, lasts, low, high):
        state = State(net, low, lasts)
        less = [task for task in range(len(net)) if low[task] > high[task]]
        if less:
            self.refuses(NotAbove, {"task": less[0]}, climb, state, high)
        elif not judge.done(net, low, lasts):
            self.refuses(Impossible, {"defect": defect(state)}, climb, state, high)
        elif not judge.done(net, high, lasts):
            self.refuses(Impossible, {"defect": defect(State(net, high, lasts))}, climb, state, high)
        else:
            takings = climb(state, high)
            self.agree(type(takings), list)
            self.assertTrue(leads(net, lasts, low, takings, high))
            return 1
        return 0

    def test_refusals(self):
        self.refuses_all(InvalidLoad, no_loads_of(CHAIN), lambda load: climb(State(CHAIN, [1, 2, 1]), load))
        self.refuses(NotAbove, {"task": 1}, climb, State(CHAIN, [1, 2, 1]), [1, 1, 1])
        self.refuses(NotAbove, {"task": 0}, climb, State(CHAIN, [LONG, LONG, LONG]), [0, 0, 0])
        self.refuses(NotAbove, {"task": 2}, climb, State(CHAIN, [0, 0, 2]), [LONG, LONG, 1])
        # Both loads are wrong; the takings are counted first.
        self.refuses(TooMany, {"count": 401}, climb, State(CHAIN, [5, 0, 0]), [406, 0, 0])
        self.refuses(Impossible, {"defect": ("often", 0, 0)}, climb, State(CHAIN, [5, 0, 0]), [5, 0, 400])
        self.refuses(Impossible, {"defect": ("often", 1, 1)}, climb, State(CHAIN, [0, 0, 0]), [1, 3, 0])
        self.refuses(Impossible, {"defect": ("ring", [(0, 0), (1, 1), (2, 2)])}, climb, RING, [2, 2, 2])
        self.refuses(Impossible, {"defect": ("ring", [(0, 0), (1, 1), (2, 2)])}, climb,
                     State(TRIANGLE, [0, 0, 0], [0, 1, 2]), [2, 2, 2])

    def test_at_most_400_takings(self):
        self.agree(climb(State(FREE, [LONG - 400]), [LONG]), [0] * 400)
        self.refuses(TooMany, {"count": 401}, climb, State(FREE, [LONG - 401]), [LONG])
        takings = climb(State(BOTH, [LONG - 200, LONG - 200], [1]), [LONG, LONG])
        self.agree([takings.count(0), takings.count(1)], [200, 200])
        self.agree(leads(BOTH, [1], [LONG - 200] * 2, takings, [LONG] * 2), True)


if __name__ == "__main__":
    unittest.main()
