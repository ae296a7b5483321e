"""Point [115]: help."""

import itertools
import unittest

from otherfirst.errors import Circled, InvalidPairs, NoPartner, TooMany
from otherfirst.helps import helped, least_help, shared_help
from otherfirst.lasts import circle_of
from otherfirst.memories import rested
from otherfirst.nets import Net
from otherfirst.profiles import profile
from otherfirst.states import State
from tests import judge
from tests.helpers import EMPTY, LONG, PAIR, ROW, Case, all_states, any_values, random_states

STATE = State(ROW, [2, 1, 0], [None, 0, 2])
OWNS = Net(4, [((node, True),) for node in range(4)])


def small_states():
    states = all_states(PAIR, 2) + random_states(115, 250, most_nodes=3, most_tasks=3, none=0.2)
    return [state for state in states if circle_of(state.net, state.lasts) is None]


def helps(needs, pairs):
    """Whether each node is in at least as many pairs as its need."""
    return all(sum(node in pair for pair in pairs) >= number for node, number in enumerate(needs))


def with_needs(needs):
    """A state in which the nodes have these needs: one minded own task each."""
    load = [number + 1 if number else 0 for number in needs]
    return State(Net(len(needs), [((node, True),) for node in range(len(needs))]), load)


class LeastHelpTest(Case):
    def test_with_it_the_state_can_be_done_and_with_less_it_cannot(self):
        helped_ones = 0
        for state in small_states():
            rests = least_help(state)
            self.agree(rests, tuple(number for number, _ in profile(state)))
            self.assertTrue(self.done(rested(state, rests)))
            for node in range(state.net.nodes):
                if rests[node]:
                    fewer = [number - (other == node) for other, number in enumerate(rests)]
                    self.assertFalse(self.done(rested(state, fewer)))
                    helped_ones += 1
        self.assertGreater(helped_ones, 50)

    def done(self, state):
        return judge.done(state.net, state.load, state.lasts)

    def test_least_help(self):
        self.agree([least_help(state=STATE), least_help(State(EMPTY, []))], [(1, 1, 0), (0, 0)])
        self.agree(least_help(State(OWNS, [LONG, 1, 0, 2], [0, 1, 2, None])), (LONG, 1, 0, 1))


class SharedHelpTest(Case):
    def test_no_shorter_list_of_pairs_helps(self):
        longest = 0
        for nodes in (2, 3, 4):
            for needs in itertools.product(range(4 if nodes < 4 else 3), repeat=nodes):
                pairs = shared_help(with_needs(needs))
                self.assertTrue(helps(needs, pairs))
                self.assertTrue(all(type(pair) is tuple and 0 <= pair[0] < pair[1] < nodes for pair in pairs))
                all_pairs = list(itertools.combinations(range(nodes), 2))
                if pairs:
                    for fewer in itertools.combinations_with_replacement(all_pairs, len(pairs) - 1):
                        self.assertFalse(helps(needs, fewer))
                self.assertEqual(len(pairs), max(max(needs), (sum(needs) + 1) // 2))
                self.agree(shared_help(with_needs(needs)), pairs)
                longest = max(longest, len(pairs))
        self.assertGreater(longest, 3)

    def test_small_states(self):
        for state in small_states():
            needs = least_help(state)
            if len(needs) > 1:
                pairs = shared_help(state)
                self.assertTrue(helps(needs, pairs))
                wider = helped(state, pairs)
                self.assertTrue(judge.done(wider.net, wider.load, wider.lasts))

    def test_shared_help(self):
        self.agree([shared_help(state=STATE), shared_help(State(EMPTY, [])), shared_help(with_needs([0]))], [[(0, 1)], [], []])
        self.agree(len(shared_help(with_needs([1, 0, 0, 0]))), 1)
        self.new_each_time(lambda: shared_help(STATE))

    def test_great_needs(self):
        for needs, count in (([100, 0], 100), ([100, 100], 100), ([100, 60, 39], 100), ([100, 60, 40], 100),
                             ([9] * 22, 99), ([67, 67, 66], 100)):
            pairs = shared_help(with_needs(needs))
            self.assertTrue(helps(needs, pairs))
            self.assertEqual(len(pairs), count)
        for needs, count in (([101, 0], 101), ([67, 67, 67], 101), ([100, 60, 41], 101), ([LONG, 5], LONG),
                             ([LONG, LONG, LONG], (3 * LONG + 1) // 2), ([3] * 24 + [], 36)):
            if count > 100:
                self.refuses(TooMany, {"count": count}, shared_help, with_needs(needs))
            else:
                self.assertEqual(len(shared_help(with_needs(needs))), count)

    def test_refusals(self):
        circled = State(PAIR, [2, 0], [0, 1])
        for call in (least_help, shared_help):
            self.refuses(Circled, {"circle": [(0, 0), (1, 1)]}, call, circled)
        self.refuses(Circled, {"circle": [(0, 0), (1, 1)]}, shared_help, State(PAIR, [LONG, 0], [0, 1]))
        for many in (2, 101, 102, LONG):
            self.refuses(NoPartner, {"node": 0}, shared_help, State(Net(1, [((0, True),)]), [many]))
        self.agree(least_help(State(Net(1, [((0, True),)]), [2])), (1,))


class HelpedTest(Case):
    def test_helped(self):
        found = helped(state=STATE, pairs=((0, 2), (1, 2), (0, 2)))
        self.agree([found.net.line(), found.line()], ["3: 0!1! 1!2? 2! 0?2? 1?2? 0?2?", "2 1 0 1 1 1 / - 0 2"])
        self.agree(helped(STATE, []) == STATE, True)

    def test_it_can_be_done_exactly_if_the_pairs_help(self):
        seen = {True: 0, False: 0}
        for state in small_states():
            needs = least_help(state)
            pairs = list(itertools.combinations(range(state.net.nodes), 2))
            for size in range(4):
                for chosen in itertools.combinations_with_replacement(pairs, size):
                    wider = helped(state, chosen)
                    wanted = helps(needs, chosen)
                    self.assertEqual(judge.done(wider.net, wider.load, wider.lasts), wanted)
                    seen[wanted] += 1
        self.assertGreater(min(seen.values()), 100)

    def test_refusals(self):
        self.refuses_all(InvalidPairs, [
            None, True, 0, "", {}, ROW, [None], [0], [(0,)], [(0, 1, 2)], [[0, 1]], [(0, 1), [0, 1]], [(1, 0)], [(1, 1)],
            [(0, 3)], [(-1, 1)], [(0, True)], [(False, 1)], [(0, None)], [(0, 1.0)], [("0", 1)], [(0, 1)] * 101,
            ((0, 1),) * 101,
        ], lambda pairs: helped(STATE, pairs))
        self.refuses_all(InvalidPairs, [value for value in any_values()[:-1] if value not in ([], ())
                                        and repr(value) not in ("[(0, 1)]", "((0, 1),)")],
                         lambda pairs: helped(STATE, pairs))

    def test_at_most_a_hundred_tasks(self):
        self.agree(len(helped(State(EMPTY, []), [(0, 1)] * 100).net), 100)
        self.agree(helped(State(EMPTY, []), [(0, 1)] * 100).load, (1,) * 100)
        self.refuses(TooMany, {"count": 101}, helped, STATE, [(0, 1)] * 98)
        self.agree(len(helped(STATE, [(0, 1)] * 97).net), 100)
        self.refuses(TooMany, {"count": 103}, helped, STATE, [(0, 1)] * 100)
        self.refuses(InvalidPairs, {"given": [(0, 1)] * 101}, helped, STATE, [(0, 1)] * 101)


if __name__ == "__main__":
    unittest.main()
