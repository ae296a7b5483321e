"""Points [111] and [113]: needs and profiles."""

import itertools
import unittest

from otherfirst.errors import InvalidNode, InvalidProfile
from otherfirst.joins import joined
from otherfirst.nets import Net
from otherfirst.profiles import fits, is_profile, need, profile, together
from otherfirst.states import State
from tests import judge
from tests.helpers import EMPTY, LONG, PAIR, ROW, TRIANGLE, Case, all_states, any_values, no_nodes_of, random_states

FIRST = ((1, 2), (0, 3))
NO_PROFILES = [None, True, 0, "", {}, [], (), ROW, [(0, 0)] * 25, [None], [0], [(0,)], [(0, 0, 0)], [[0, 0]],
               [(1, 2), [0, 3]], [(2, 1)], [(-1, 0)], [(0, -1)], [(True, 1)], [(0, True)], [(False, 0)], [(0, False)],
               [(None, 0)], [(0, None)], [(0, 0.0)], [("0", 0)], [(1, 2), (4, 3)]]


def small_states():
    return all_states(PAIR, 2) + all_states(TRIANGLE, 1)[::3] + random_states(111, 150, most_nodes=3, none=0.2)


class ProfileTest(Case):
    def test_by_words(self):
        needs = {}
        for state in small_states():
            wanted = []
            for node in range(state.net.nodes):
                slacks = [judge.slack(state.net, state.load, state.lasts, task, node) for task in state.net.at(node)
                          if state.net.minds(task, node)]
                wanted.append((max([0] + [-number for number in slacks]),
                               sum(state.load[task] for task in state.net.at(node))))
                self.agree(need(state, node), wanted[node][0])
                needs[wanted[node][0]] = True
            self.agree(profile(state), tuple(wanted))
            self.agree(is_profile(profile(state), state.net.nodes), True)
        self.assertGreater(len(needs), 2)

    def test_need_and_profile(self):
        state = State(ROW, [2, 1, 0])
        self.agree([need(state, 0), need(state=state, node=1), profile(state)], [1, 0, ((1, 2), (0, 3), (0, 1))])
        self.agree([profile(State(EMPTY, [])), need(State(EMPTY, []), 1)], [((0, 0), (0, 0)), 0])
        own = Net(1, [((0, True),), ((0, False),)])
        self.agree([profile(State(own, [LONG, 0])), profile(State(own, [LONG, 0], [0])), profile(State(own, [0, LONG])),
                    profile(State(own, [0, 0], [0]))],
                   [((LONG - 1, LONG),), ((LONG, LONG),), ((0, LONG),), ((0, 0),)])

    def test_refusals(self):
        self.refuses_all(InvalidNode, no_nodes_of(ROW), lambda node: need(State(ROW, [1, 1, 1]), node))


class IsProfileTest(Case):
    def test_is_profile(self):
        for value in (FIRST, list(FIRST), [(0, 0), (LONG, LONG)]):
            self.agree([is_profile(value=value, nodes=2), is_profile(value, 1), is_profile(value, 3)], [True, False, False])
        self.agree(is_profile([(0, 0)] * 24, 24), True)
        for value in NO_PROFILES:
            for nodes in (1, 2, 24):
                self.agree(is_profile(value, nodes), False)

    def test_any_value(self):
        for value in any_values():
            self.agree(is_profile(value, 1), repr(value) in ("[(0, 1)]", "((0, 1),)"))
            for at in range(2):
                self.agree(is_profile([FIRST[:at] + (value,) + FIRST[at + 1:]], 2), False)
                self.agree(is_profile([(0, 0), (value, 3), (0, 0)][:2], 2),
                           isinstance(value, int) and not isinstance(value, bool) and 0 <= value <= 3)
                self.agree(is_profile([(0, 0), (2, value)], 2),
                           isinstance(value, int) and not isinstance(value, bool) and value >= 2)


class FitTest(Case):
    def test_all_small_profiles(self):
        shares = [(one, other) for one in range(3) for other in range(4) if one <= other]
        for first, second in itertools.product(shares, repeat=2):
            wanted = first[0] <= second[1] and second[0] <= first[1]
            self.agree([fits([first], [second]), fits(((0, 0), first), [(0, 0), second]),
                        fits([first, (0, 9)], [second, (0, 5)])], [wanted] * 3)
            joint = (max(0, first[0] - second[1], second[0] - first[1]), first[1] + second[1])
            self.agree([together([first], [second]), together((first, (3, 4)), ((1, 1), second))],
                       [(joint,), together([first], [(1, 1)]) + together([(3, 4)], [second])])

    def test_fits(self):
        self.agree([fits(first=FIRST, second=FIRST), fits(FIRST, [(0, 0), (0, 0)]), fits(FIRST, [(0, 1), (3, 3)]),
                    fits(FIRST, [(2, 9), (4, 9)]), fits([(0, 1), (3, 3)], FIRST)], [True, False, True, False, True])
        self.agree([fits([(LONG, LONG)], [(0, LONG)]), fits([(LONG, LONG)], [(0, LONG - 1)])], [True, False])
        self.agree(together(first=[(LONG, LONG)], second=[(0, LONG - 1)]), ((1, 2 * LONG - 1),))
        self.agree(together([(0, LONG - 1)], [(LONG, LONG)]), ((1, 2 * LONG - 1),))

    def test_the_profile_of_a_joined_state(self):
        states = [state for state in small_states() if state.net.nodes == 2]
        for one in states[::3]:
            for other in states[::7]:
                if other.lasts == (None, None):
                    self.agree(profile(joined(one, other)), together(profile(one), profile(other)))

    def test_refusals(self):
        for call in (fits, together):
            self.refuses_all(InvalidProfile, NO_PROFILES, lambda first: call(first, None))
            self.refuses_all(InvalidProfile, NO_PROFILES, lambda second: call([(0, 0)], second))
            self.refuses_all(InvalidProfile, [[(0, 0)], [(0, 0)] * 3, [(0, 0), (1, 0)]], lambda second: call(FIRST, second))
            self.refuses_in_order(call, [("first", FIRST, [(1, 0)], InvalidProfile),
                                         ("second", FIRST, [(0, 0)], InvalidProfile)])
            self.refuses_all(InvalidProfile, any_values()[:-1], lambda second: call(FIRST, second))
            many = [(0, 0)] * 24
            self.unchanged(call, many, many)
            self.refuses_all(InvalidProfile, [many + [(0, 0)]], lambda first: call(first, first))


if __name__ == "__main__":
    unittest.main()
