"""Points [76] and [77]: rests, loads that part lasts, and forgetting."""

import itertools
import unittest

from otherfirst.errors import Circled, Impossible, InvalidGroup, InvalidLasts, InvalidRests, TooMany
from otherfirst.lasts import circle_of, is_true
from otherfirst.memories import forgotten, is_parting_load, parting_load, rested, to_forget
from otherfirst.nets import Net
from otherfirst.rings import rings
from otherfirst.runs import legal, run
from otherfirst.states import State
from tests import judge
from tests.helpers import EMPTY, LONG, PAIR, ROW, TRIANGLE, Case, all_states, any_values, lasts_of, no_lasts_of
from tests.helpers import random_states, small_nets

# Node 0 does not mind task 1.
HALF = Net(2, [((0, True), (1, True)), ((0, False), (1, True))])
MANY = Net(2, [((0, True), (1, True)), ((0, True), (1, True))] + [((0, True),)] * 98)
NO_RESTS = [None, True, 0, "", "00", {}, HALF, [], [0], [0] * 3, (0,) * 3, [0, None], [True, 0], [0, False], [0, -1],
            [0, "0"], [0, 0.0], [[0], 0], [[0, 0]]]


def with_rests(net, load, rests):
    """The net and the load with the rests, by the words of point [76]."""
    wider = Net(net.nodes, list(net.tasks) + [((node, False),) for node in range(net.nodes)])
    return wider, tuple(load) + tuple(rests)


def parts(net, lasts, other, load, rests):
    wider, full = with_rests(net, load, rests)
    return judge.done(wider, full, lasts) != judge.done(wider, full, other)


def minded(net, lasts):
    return [last if last is not None and (node, True) in net.tasks[last] else None for node, last in enumerate(lasts)]


class RestedTest(Case):
    def test_rested(self):
        state = State(HALF, [1, 2], [0, 1])
        wider = rested(state=state, rests=(3, LONG))
        self.agree([wider.net.line(), wider.load, wider.lasts], ["2: 0!1! 0?1! 0? 1?", (1, 2, 3, LONG), (0, 1)])
        self.agree(rested(State(EMPTY, []), [0, 1]) == State(Net(2, [((0, False),), ((1, False),)]), [0, 1]), True)
        self.agree(self.unchanged(rested, state, [0, 0]).load, (1, 2, 0, 0))

    def test_all_else_is_as_in_the_state(self):
        for state in random_states(71, 60):
            rests = [node + 1 for node in range(state.net.nodes)]
            wider, load = with_rests(state.net, state.load, rests)
            self.assertEqual(rested(state, rests), State(wider, load, state.lasts))

    def test_refusals(self):
        self.refuses_all(InvalidRests, NO_RESTS, lambda rests: rested(State(HALF, [0, 0]), rests))

    def test_at_most_a_hundred_tasks(self):
        for many, count in ((98, None), (99, 101), (100, 102)):
            state = State(Net(2, [((0, True),)] * many), [0] * many)
            if count is None:
                self.agree(len(rested(state, [1, 1]).net), 100)
            else:
                self.refuses(TooMany, {"count": count}, rested, state, [1, 1])
                self.refuses_all(InvalidRests, NO_RESTS, lambda rests: rested(state, rests))


class PartingLoadTest(Case):
    def test_a_search_of_all_rows_of_runs_agrees(self):
        for net in small_nets(72, 5):
            for lasts, other in itertools.product(lasts_of(net), repeat=2):
                found = parting_load(net, lasts, other)
                self.assertEqual(found is None, minded(net, lasts) == minded(net, other))
                if found is not None:
                    self.agree([type(found), len(found), type(found[0]), type(found[1])], [tuple, 2, tuple, tuple])
                    self.assertTrue(parts(net, lasts, other, *found))
                    self.agree(is_parting_load(net, lasts, other, found), True)
                    self.agree(parting_load(net, list(lasts), list(other)), found)

    def test_parting_load(self):
        self.agree(parting_load(HALF, [1, 1], [None, 1]), None)
        self.agree(parting_load(net=HALF, lasts=[0, 0], other=(0, 0)), None)
        self.agree(parting_load(EMPTY, [None, None], [None, None]), None)
        own = Net(1, [((0, True),)])
        self.agree(is_parting_load(own, [0], [None], parting_load(own, [None], [0])), True)
        self.agree(parting_load(Net(1, [((0, False),)]), [None], [0]), None)

    def test_with_a_hundred_tasks(self):
        found = parting_load(MANY, [0, None], [99, None])
        self.agree(is_parting_load(MANY, [0, None], [99, None], found), True)
        self.agree([len(found[0]), len(found[1])], [100, 2])

    def test_refusals(self):
        self.refuses_in_order(parting_load, [("lasts", [0, 1, 2], no_lasts_of(ROW)[0], InvalidLasts),
                                             ("other", [0, 1, 2], [None], InvalidLasts)], net=ROW)
        self.refuses_all(InvalidLasts, no_lasts_of(ROW), lambda lasts: parting_load(ROW, lasts, [None] * 3))
        self.refuses_all(InvalidLasts, no_lasts_of(ROW), lambda other: parting_load(ROW, [None] * 3, other))
        # The net has a circle, but wrong lasts come first.
        self.refuses(InvalidLasts, {"given": [5, 0]}, parting_load, PAIR, [0, 1], [5, 0])
        self.refuses(Circled, {"circle": [(0, 0), (1, 1)]}, parting_load, PAIR, [0, 1], [1, 0])
        self.refuses(Circled, {"circle": [(0, 1), (1, 0)]}, parting_load, PAIR, [0, 0], [1, 0])
        self.refuses(Circled, {"circle": [(0, 0), (1, 1)]}, parting_load, PAIR, [0, 1], [0, 1])


class IsPartingLoadTest(Case):
    def test_all_small_values(self):
        right = 0
        for net in [PAIR, HALF] + small_nets(73, 3, 2, 2)[4:]:
            values = list(itertools.product(judge.within([2] * len(net)), judge.within([1] * net.nodes)))
            for lasts, other in itertools.product(lasts_of(net, sound=False), repeat=2):
                for load, rests in values:
                    wanted = parts(net, lasts, other, load, rests)
                    right += wanted
                    self.agree(is_parting_load(net, lasts, other, (load, rests)), wanted)
        self.assertGreater(right, 500)

    def test_a_ring_is_open_if_one_of_its_nodes_rests(self):
        for rests, wanted in (([0, 0], True), ([1, 0], False), ([0, 1], False)):
            self.agree(is_parting_load(PAIR, [0, 1], [None, None], ([2, 2], rests)), wanted)
        self.agree(is_parting_load(MANY, [0, 1], [None, None], ([2, 2] + [0] * 98, [0, 0])), True)

    def test_a_rest_at_another_node_does_not_open_a_ring(self):
        net = Net(3, list(PAIR.tasks))
        self.agree(is_parting_load(net, [0, 1, None], [None] * 3, ([2, 2], (0, 0, 7))), True)

    def test_great_counts(self):
        self.agree([is_parting_load(net=HALF, lasts=[0, None], other=[None, None], value=([LONG, 0], [rest, LONG]))
                    for rest in (LONG - 2, LONG - 1, LONG)], [False, True, False])

    def test_lists_and_tuples(self):
        for value in (([1, 0], [0, 1]), ((1, 0), (0, 1)), ([1, 0], (0, 1))):
            self.agree(is_parting_load(PAIR, [0, None], [None, None], value), True)

    def test_wrong_ones(self):
        for value in [None, [[1, 0], [0, 1]], ([1, 0],), ([1, 0], [0, 1], []), ([1, 0, 0], [0, 1]), ([1], [0, 1]),
                      ([1, 0], [0]), ([1, 0], [0, 1, 0]), ([True, 0], [0, 1]), ([1, False], [0, 1]),
                      ([1, 0], [False, 1]), ([1, 0], [0, True]), ([1, 0], [-1, 1]), ([-1, 0], [0, 1]), ([1, 0], None),
                      (None, [0, 1]), ([1, 0], [None, 1]), ([1.0, 0], [0, 1])]:
            self.agree(is_parting_load(PAIR, [0, None], [None, None], value), False)

    def test_any_value(self):
        for net in (PAIR, EMPTY, Net(1, [])):
            for value in any_values():
                self.agree(is_parting_load(net, [None] * net.nodes, [None] * net.nodes, value), False)
        for value in any_values():
            self.agree(is_parting_load(PAIR, [0, 0], [0, 1], value), False)

    def test_refusals(self):
        for value in (None, ([1, 0, 0], [0, 0, 0])):
            self.refuses_in_order(is_parting_load, [("lasts", [0, 0, 1], [None] * 4, InvalidLasts),
                                                    ("other", [0, 1, 2], [None], InvalidLasts)], net=ROW, value=value)
            self.refuses_all(InvalidLasts, no_lasts_of(ROW), lambda lasts: is_parting_load(ROW, lasts, [0, 0, 1], value))
            self.refuses_all(InvalidLasts, no_lasts_of(ROW), lambda other: is_parting_load(ROW, [0, 0, 1], other, value))


class ForgottenTest(Case):
    def test_forgotten(self):
        state = State(TRIANGLE, [3, 0, 1], [0, 1, 2])
        for nodes, lasts in (([], (0, 1, 2)), ([1], (0, None, 2)), ((0, 2), (None, 1, None)), ([0, 1, 2], (None,) * 3)):
            found = forgotten(state, nodes)
            self.agree([found.net == TRIANGLE, found.load, found.lasts], [True, (3, 0, 1), lasts])
        self.agree(forgotten(state=State(EMPTY, []), nodes=[0, 1]).lasts, (None, None))
        self.unchanged(forgotten, state, [0, 1])
        self.agree(state.lasts, (0, 1, 2))

    def test_refusals(self):
        state = State(TRIANGLE, [1, 1, 1], [0, 1, 2])
        self.refuses_all(InvalidGroup, [
            None, True, 0, "", {}, TRIANGLE, [3], [-1], [None], [True], [0, True], [False], ["0"], [0.0], [[0]], [(0,)],
            [0, 0], [1, 0], [0, 2, 1], [0, 1, 1], (1, 0), [0, 1, 2, 3], [0, 1, 2, 2], [LONG],
        ], lambda nodes: forgotten(state, nodes))


class ToForgetTest(Case):
    def test_to_forget(self):
        self.agree(to_forget(State(HALF, [1, 1], [0, 1])), ([], [[(0, 0), (1, 1)]]))
        self.agree(to_forget(state=State(HALF, [1, 0], [0, 0])), ([0, 1], []))
        self.agree(to_forget(State(EMPTY, [])), ([], []))
        both = Net(4, list(PAIR.tasks) + [((2, True), (3, False)), ((3, True),)])
        self.agree(to_forget(State(both, [1, 1, 1, LONG - LONG], [0, 1, 2, 2])), ([2], [[(0, 0), (1, 1)]]))

    def test_it_takes_just_so_many_nodes(self):
        seen = {}
        for state in all_states(PAIR, 2) + all_states(TRIANGLE, 1) + random_states(74, 200, most_nodes=3, none=0.1):
            net = state.net
            fewest = [nodes for size in range(net.nodes + 1) for nodes in itertools.combinations(range(net.nodes), size)
                      if judge.done(net, state.load, [None if node in nodes else last
                                                      for node, last in enumerate(state.lasts)])]
            if fewest == []:
                often = judge.often(net, state.load, [None] * net.nodes)
                self.refuses(Impossible, {"defect": ("often",) + often[0]}, to_forget, state)
            else:
                nodes, closed = to_forget(state)
                self.agree([nodes, closed], [sorted({node for node, _ in judge.often(net, state.load, state.lasts)}),
                                             rings(state)])
                self.assertEqual(len(nodes) + len(closed), len(fewest[0]))
                for choice in itertools.product(*closed):
                    group = sorted(nodes + [node for node, _ in choice])
                    self.assertTrue(judge.done(net, state.load, forgotten(state, group).lasts))
                seen[len(nodes), len(closed)] = True
        self.assertGreater(len(seen), 3)

    def test_great_counts(self):
        net = Net(1, [((0, True),), ((0, True),)])
        self.agree(to_forget(State(net, [LONG, LONG - 1], [0])), ([0], []))
        self.refuses(Impossible, {"defect": ("often", 0, 0)}, to_forget, State(net, [LONG, LONG - 2], [0]))
        self.refuses(Impossible, {"defect": ("often", 0, 1)}, to_forget, State(net, [0, 2], [0]))

    def test_the_lists_are_new(self):
        state = State(HALF, [1, 1], [0, 1])
        for part in (lambda: to_forget(state)[0], lambda: to_forget(state)[1], lambda: to_forget(state)[1][0]):
            self.new_each_time(part)


class SoundnessTest(Case):
    def test_sound_lasts_stay_sound_if_nodes_forget(self):
        for net in small_nets(75, 12):
            for lasts in lasts_of(net):
                state = State(net, [1] * len(net), lasts)
                for node in range(net.nodes):
                    self.assertIsNone(circle_of(net, forgotten(state, [node]).lasts))
                for task in legal(state):
                    self.assertIsNone(circle_of(net, run(state, task).lasts))

    def test_true_lasts_are_sound(self):
        for net in small_nets(76, 12):
            for lasts in lasts_of(net, sound=False):
                self.assertFalse(is_true(net, lasts) and circle_of(net, lasts) is not None)


if __name__ == "__main__":
    unittest.main()
