"""Points [8], [112], [114] and [116]: joined states, partings, merged nodes."""

import itertools
import unittest

from otherfirst.errors import Circled, InvalidNode, InvalidOther, SameNode, SharedTask, TooMany
from otherfirst.joins import is_parting, joined, merged, never_worse, parting
from otherfirst.lasts import circle_of
from otherfirst.nets import Net
from otherfirst.profiles import fits, profile
from otherfirst.states import State
from tests import judge
from tests.helpers import EMPTY, LONG, PAIR, ROW, TRIANGLE, Case, all_states, any_values, no_nodes_of, random_states

STATE = State(ROW, [2, 1, 0], [None, 0, 2])
OWN = Net(2, [((0, True),), ((1, False),)])


def owns(nodes, many):
    """A net of so many own tasks."""
    return Net(nodes, [((task % nodes, True),) for task in range(many)])


def sound_states(nodes):
    """States on two nodes, or on so many, with sound lasts."""
    states = all_states(PAIR, 2) + all_states(OWN, 2) if nodes == 2 else []
    states += [state for state in random_states(112, 300, most_nodes=3, most_tasks=3, none=0.2)
               if state.net.nodes == nodes]
    return [state for state in states if circle_of(state.net, state.lasts) is None]


def fresh_states(nodes):
    """Small surroundings: states with fresh lasts on so many nodes."""
    marks = [((node, minds),) for node in range(nodes) for minds in (True, False)]
    net = Net(nodes, marks + ([((0, True), (1, True))] if nodes > 1 else []))
    return [State(net, load) for load in itertools.product(range(3), repeat=len(net))]


def others_of(state):
    """Values that are no states on as many nodes."""
    return [None, True, 0, "", {}, [], (), state.net, [state], (state,), State(Net(state.net.nodes + 1, []), []),
            State(Net(state.net.nodes - 1, []), []), state.load]


class JoinedTest(Case):
    def test_joined(self):
        other = State(Net(3, [((0, False),), ((0, True), (2, False))]), [1, LONG])
        found = joined(one=STATE, other=other)
        self.agree([found.net.line(), found.line()], ["3: 0!1! 1!2? 2! 0? 0!2?", f"2 1 0 1 {LONG} / - 0 2"])
        self.agree(joined(State(EMPTY, []), State(EMPTY, [])) == State(EMPTY, []), True)

    def test_it_can_be_done_exactly_if_both_profiles_fit(self):
        seen = {True: 0, False: 0}
        for nodes in (2, 3):
            ones = sound_states(nodes)[::3]
            others = [state for state in sound_states(nodes) if state.lasts == (None,) * nodes]
            for one, other in itertools.product(ones[:40], others[:25]):
                found = joined(one, other)
                wanted = judge.done(found.net, found.load, found.lasts)
                self.agree(fits(profile(one), profile(other)), wanted)
                self.agree([found.net.tasks, found.load, found.lasts],
                           [one.net.tasks + other.net.tasks, one.load + other.load, one.lasts])
                seen[wanted] += 1
        self.assertGreater(min(seen.values()), 200)

    def test_refusals(self):
        wrong = others_of(STATE) + [STATE, State(ROW, [0, 0, 0], [0, None, None])]
        self.refuses_all(InvalidOther, wrong, lambda other: joined(STATE, other))
        self.refuses_all(InvalidOther, any_values()[:-1], lambda other: joined(State(EMPTY, []), other))
        for one, other in ((60, 40), (100, 0), (0, 100)):
            self.agree(len(joined(State(owns(3, one), [0] * one), State(owns(3, other), [0] * other)).net), 100)
        for one, other in ((60, 41), (100, 1), (1, 100), (100, 100)):
            self.refuses(TooMany, {"count": one + other}, joined, State(owns(3, one), [0] * one),
                         State(owns(3, other), [0] * other))
        self.refuses(InvalidOther, {"given": STATE}, joined, State(owns(3, 100), [0] * 100), STATE)


class PartingTest(Case):
    def test_partings_of_small_states(self):
        seen = {"none": 0, "some": 0}
        for nodes in (1, 2, 3):
            states = sound_states(nodes)[::4][:35]
            for one, other in itertools.product(states, repeat=2):
                found = parting(one, other)
                if profile(one) == profile(other):
                    self.agree(found, None)
                    seen["none"] += 1
                else:
                    self.judge_owns(found, nodes)
                    self.assertNotEqual(self.done(one, found), self.done(other, found))
                    self.agree([is_parting(one, other, found), parting(one, other) == found], [True, True])
                    seen["some"] += 1
        self.assertGreater(min(seen.values()), 100)

    def judge_owns(self, found, nodes):
        self.assertIs(type(found), State)
        self.agree(found.lasts, (None,) * nodes)
        self.assertLessEqual(len(found.net), nodes + 1)
        self.assertTrue(all(len(task) == 1 for task in found.net.tasks))

    def done(self, one, other):
        found = joined(one, other)
        return judge.done(found.net, found.load, found.lasts)

    def test_equal_profiles_stand_for_one_another(self):
        equal = 0
        for nodes in (1, 2):
            states = sound_states(nodes)[::3][:25]
            around = fresh_states(nodes)[::5]
            for one, other in itertools.combinations(states, 2):
                if profile(one) == profile(other):
                    equal += 1
                    self.assertTrue(all(self.done(one, state) == self.done(other, state) for state in around[:40]))
                    self.assertFalse(any(is_parting(one, other, state) for state in around))
        self.assertGreater(equal, 10)

    def test_never_worse(self):
        seen = {"none": 0, "some": 0}
        for nodes in (1, 2, 3):
            states = sound_states(nodes)[::4][:35]
            around = fresh_states(nodes)[::4]
            for one, other in itertools.product(states, repeat=2):
                found = never_worse(one, other)
                first, second = profile(one), profile(other)
                if all(a[0] <= b[0] and a[1] >= b[1] for a, b in zip(first, second)):
                    self.agree(found, None)
                    self.assertFalse(any(fits(profile(state), second) and not fits(profile(state), first)
                                         for state in around[:100]))
                    seen["none"] += 1
                else:
                    self.judge_owns(found, nodes)
                    self.agree([self.done(one, found), self.done(other, found)], [False, True])
                    self.assertEqual(never_worse(one, other), found)
                    seen["some"] += 1
        self.assertGreater(min(seen.values()), 100)

    def test_great_counts(self):
        one = State(OWN, [0, LONG])
        for load, wanted in (([0, LONG], None), ([0, LONG - 1], None), ([0, LONG + 1], True), ([2, LONG], True)):
            found = never_worse(one, State(OWN, load))
            self.assertEqual(found is None, wanted is None)
            if load != [0, LONG]:
                found = parting(one, State(OWN, load))
                self.agree(is_parting(one, State(OWN, load), found), True)

    def test_room_for_own_tasks(self):
        for call in (parting, never_worse):
            for one, other in ((97, 97), (97, 3), (3, 97)):
                # Two nodes and one more make a hundred.
                first = State(owns(2, one), [0] * one)
                second = State(owns(2, other), [1] * other)
                self.judge_owns(call(first, second), 2)
            for one, other in ((98, 98), (98, 3), (3, 98), (100, 1)):
                first = State(owns(2, one), [0] * one)
                second = State(owns(2, other), [1] * other)
                self.refuses(TooMany, {"count": max(one, other) + 3}, call, first, second)
            self.agree([call(State(owns(2, 100), [0] * 100), State(owns(2, 98), [0] * 98)),
                        call(State(owns(2, 98), [0] * 98), State(owns(2, 100), [0] * 100))], [None, None])
        # None of the tasks of the parting itself is counted in the judge.
        self.agree(is_parting(State(owns(2, 100), [0] * 100), State(owns(2, 100), [1] * 100),
                              State(owns(2, 100), [52] + [0] * 99)), False)
        self.agree(is_parting(one=State(owns(2, 100), [0] * 100), other=State(owns(2, 100), [1] * 100),
                              value=State(owns(2, 100), [50] * 1 + [1] + [0] * 98)), True)

    def test_refusals(self):
        circled = State(PAIR, [1, 1], [0, 1])
        fresh = State(PAIR, [1, 1])
        for call in (parting, never_worse, lambda one, other: is_parting(one, other, None)):
            self.refuses_all(InvalidOther, others_of(STATE), lambda other: call(STATE, other))
            self.refuses_all(InvalidOther, others_of(circled), lambda other: call(circled, other))
            self.refuses(Circled, {"circle": [(0, 0), (1, 1)]}, call, circled, State(PAIR, [1, 1], [1, 0]))
            self.refuses(Circled, {"circle": [(0, 1), (1, 0)]}, call, fresh, State(PAIR, [1, 1], [1, 0]))
            self.refuses(Circled, {"circle": [(0, 0), (1, 1)]}, call, circled, circled)
        for call in (parting, never_worse):
            self.refuses(Circled, {"circle": [(0, 0), (1, 1)]}, call, State(Net(2, PAIR.tasks * 50), [1] * 100, [0, 1]),
                         State(EMPTY, []))


class IsPartingTest(Case):
    def test_by_words(self):
        right = 0
        for nodes in (1, 2):
            states = sound_states(nodes)[::5][:12]
            for one, other in itertools.product(states, repeat=2):
                for value in fresh_states(nodes)[::7] + states:
                    fresh = value.lasts == (None,) * nodes
                    wanted = fresh and fits(profile(value), profile(one)) != fits(profile(value), profile(other))
                    self.agree(is_parting(one, other, value), wanted)
                    right += wanted
        self.assertGreater(right, 100)

    def test_any_value(self):
        one, other = State(EMPTY, []), State(OWN, [2, 0])
        right = State(OWN, [0, 1])
        self.agree(is_parting(one, other, right), True)
        for value in any_values() + [[right], (right,), right.net, State(Net(3, OWN.tasks), [0, 1]), State(Net(1, []), []),
                                     State(OWN, [0, 1], [0, None]), State(OWN, [0, 1], [None, 1]), State(OWN, [1, 1])]:
            self.agree(is_parting(one, other, value), False)


class MergedTest(Case):
    def test_merged(self):
        self.agree([merged(STATE, 2, 0).net.line(), merged(STATE, 2, 0).line()], ["2: 0!1! 0!1? 1!", "2 1 0 / 0 2"])
        self.agree([merged(state=STATE, node=0, other=2).net.line(), merged(STATE, 0, 2).lasts], ["2: 0!1! 0?1! 0!", (2, 0)])
        four = Net(4, [((0, True), (1, False)), ((2, True), (3, False)), ((3, True),)])
        state = State(four, [1, 2, 3], [0, None, 1, 2])
        for node, other, line, lasts in [
            (1, 3, "3: 0!1? 1?2! 1!", (0, 2, 1)), (3, 1, "3: 0!2? 1!2? 2!", (0, 1, 2)), (0, 2, "3: 0!1? 0!2? 2!", (0, None, 2)),
            (2, 0, "3: 0?1! 1!2? 2!", (None, 1, 2)), (0, 3, "3: 0!1? 0?2! 0!", (0, None, 1)),
            (1, 2, "3: 0!1? 1!2? 2!", (0, 1, 2)), (2, 1, "3: 0!1? 1!2? 2!", (0, 1, 2)),
        ]:
            found = merged(state, node, other)
            self.agree([found.net.line(), found.load, found.lasts], [line, (1, 2, 3), lasts])

    def test_the_last_of_the_node_comes_first(self):
        net = Net(2, [((0, True),), ((1, True),)])
        for lasts, one, other in (([0, 1], 0, 1), ([None, 1], 1, 1), ([0, None], 0, 0), ([None, None], None, None)):
            self.agree([merged(State(net, [1, 1], lasts), 0, 1).lasts, merged(State(net, [1, 1], lasts), 1, 0).lasts],
                       [(one,), (other,)])

    def test_each_schedule_can_be_run_from_the_merged_state(self):
        found = 0
        for state in random_states(116, 150, most_nodes=3, most_tasks=4):
            net = state.net
            for node, other in itertools.permutations(range(net.nodes), 2):
                if any(node in net.ends(task) and other in net.ends(task) for task in range(len(net))):
                    continue
                one = merged(state, node, other)
                self.check_ends(net, one.net, node, other)
                found += self.follow(net, state.load, state.lasts, one.net, one.lasts)
        self.assertGreater(found, 300)

    def check_ends(self, net, new, node, other):
        order = [end for end in range(net.nodes) if end != other]
        for ends, marks in zip(net.tasks, new.tasks):
            wanted = sorted((order.index(node if end == other else end), minds) for end, minds in ends)
            self.agree(marks, tuple(wanted))

    def follow(self, net, load, lasts, new, others):
        found = 0
        for task in judge.moves(net, load, lasts):
            self.assertIn(task, judge.moves(new, load, others))
            left, behind = judge.behind(net, load, lasts, task)
            found += 1
            if sum(left) > 2:
                found += self.follow(net, left, behind, new, judge.behind(new, load, others, task)[1])
        return found

    def test_refusals(self):
        self.refuses_all(InvalidNode, no_nodes_of(ROW), lambda node: merged(STATE, node, 9))
        self.refuses_all(InvalidNode, no_nodes_of(ROW), lambda other: merged(STATE, 0, other))
        self.refuses_in_order(merged, [("node", 0, 3, InvalidNode), ("other", 2, -1, InvalidNode)], state=STATE)
        for node in range(3):
            self.refuses(SameNode, {"node": node}, merged, STATE, node, node)
        self.refuses(SharedTask, {"task": 0}, merged, STATE, 1, 0)
        self.refuses(SharedTask, {"task": 1}, merged, State(TRIANGLE, [0, 0, 0]), 2, 1)
        self.refuses(SharedTask, {"task": 0}, merged, State(PAIR, [0, 0]), 0, 1)
        self.refuses(SharedTask, {"task": 1}, merged, State(Net(2, [((0, True),), ((0, False), (1, False)),
                                                                    ((0, True), (1, True))]), [0] * 3), 1, 0)


if __name__ == "__main__":
    unittest.main()
