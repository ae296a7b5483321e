"""Point [85]: passages between builds."""

import unittest

from otherfirst.errors import InvalidBuild, TooMany
from otherfirst.nets import Net
from otherfirst.passages import opposite, passage
from otherfirst.states import State
from otherfirst.taking import is_build
from tests.helpers import EMPTY, PAIR, TRIANGLE, Case, all_states, any_values, random_states
from tests.test_taking import all_builds

CHAIN = Net(3, [((0, True), (1, True)), ((1, True), (2, True)), ((2, False),)])
STATE = State(CHAIN, [1, 2, 1])
FREE = Net(1, [((0, False),)] * 3)
NO_BUILDS = [None, True, 0, "", {}, CHAIN, [], [0, 1, 2], [0, 1, 1, 2], [0, 1, 2, 1, 1], [0, 1, 2, 2], [0, 1, 2, 3],
             [0, True, 2, 1], [False, 1, 2, 1], [0, 1, 2, None], [[0, 1, 2, 1]], [0, 1, 2, "1"], (1, 2, 0, 1, 1)]


def takings(build):
    return [(task, build[:at].count(task)) for at, task in enumerate(build)]


def opposite_by_words(one, other):
    """The number of pairs of takings of which one is ahead in the first and behind in the other."""
    first, second = takings(one), takings(other)
    return len([1 for a in first for b in first
                if first.index(a) < first.index(b) and second.index(a) > second.index(b)])


def neighbours(build):
    return [build[:at] + [build[at + 1], build[at]] + build[at + 2:] for at in range(len(build) - 1)]


def distances(builds, start):
    """How many exchanges lead from a build to each other one, through builds alone."""
    found = {tuple(start): 0}
    border = [start]
    while border:
        reached = []
        for build in border:
            for other in neighbours(build):
                if other in builds and tuple(other) not in found:
                    found[tuple(other)] = found[tuple(build)] + 1
                    reached.append(other)
        border = reached
    return found


def small_states():
    states = all_states(PAIR, 2) + all_states(TRIANGLE, 1) + random_states(85, 60, most_nodes=3, most_tasks=4)
    return [state for state in states if 0 < state.total() < 7]


class PassageTest(Case):
    def test_passages_of_small_states_are_as_short_as_can_be(self):
        pairs = 0
        for state in small_states():
            builds = all_builds(state.net, state.load, state.lasts)
            for one in builds[:6]:
                away = distances(builds, one)
                for other in builds[::max(1, len(builds) // 12)]:
                    self.agree(opposite(state, one, other), opposite_by_words(one, other))
                    self.agree(opposite(state, one, other), away[tuple(other)])
                    self.check(builds, passage(state, one, tuple(other)), one, other)
                    pairs += 1
        self.assertGreater(pairs, 800)

    def check(self, builds, found, one, other):
        self.agree([found[0], found[-1], len(found) - 1], [one, other, opposite_by_words(one, other)])
        for build, following in zip(found, found[1:]):
            self.assertIn(following, builds)
            self.assertIn(following, neighbours(build))

    def test_passage(self):
        self.agree(passage(STATE, [1, 0, 2, 1], (0, 1, 2, 1)), [[1, 0, 2, 1], [0, 1, 2, 1]])
        self.agree(passage(state=STATE, one=(0, 1, 2, 1), other=[0, 1, 2, 1]), [[0, 1, 2, 1]])
        self.agree([passage(State(EMPTY, []), [], ()), opposite(State(EMPTY, []), [], [])], [[[]], 0])
        self.agree(opposite(state=STATE, one=[0, 1, 2, 1], other=(2, 1, 0, 1)), 3)
        self.agree(opposite(STATE, [2, 1, 0, 1], [0, 1, 2, 1]), 3)

    def test_the_lists_are_new(self):
        one, other = [0, 1, 2, 1], [2, 1, 0, 1]
        found = self.unchanged(passage, STATE, one, other)
        self.new_each_time(lambda: passage(STATE, one, other))
        for part in found:
            self.assertFalse(part is one or part is other)
        self.assertEqual(len({id(part) for part in found}), len(found))
        alone = passage(STATE, one, one)
        alone[0].append("changed")
        self.agree([one, passage(STATE, one, one)], [[0, 1, 2, 1], [[0, 1, 2, 1]]])

    def test_refusals(self):
        for call in (passage, opposite):
            self.refuses_all(InvalidBuild, NO_BUILDS, lambda one: call(STATE, one, [0, 1, 2, 1]))
            self.refuses_all(InvalidBuild, NO_BUILDS, lambda other: call(STATE, [0, 1, 2, 1], other))
            self.refuses_in_order(call, [("one", [0, 1, 2, 1], [0, 1, 1, 2], InvalidBuild),
                                         ("other", [0, 1, 2, 1], [1, 1, 0, 2], InvalidBuild)], state=STATE)
            self.refuses_all(InvalidBuild, any_values()[:-1], lambda one: call(STATE, one, None))

    def test_at_most_sixty_opposite_pairs(self):
        state = State(FREE, [6, 10, 1])
        one = [0] * 6 + [1] * 10 + [2]
        other = [1] * 10 + [0] * 6 + [2]
        self.agree([opposite(state, one, other), len(passage(state, one, other))], [60, 61])
        other = [1] * 10 + [0] * 5 + [2, 0]
        self.agree(opposite(state, one, other), 61)
        self.refuses(TooMany, {"count": 61}, passage, state, one, other)
        self.refuses(InvalidBuild, {"given": other + [0]}, passage, state, one, other + [0])

    def test_builds_of_400_takings(self):
        state = State(FREE, [200, 200, 0])
        one, other = [0] * 200 + [1] * 200, [1] * 200 + [0] * 200
        self.agree(opposite(state, one, other), 40000)
        self.refuses(TooMany, {"count": 40000}, passage, state, one, other)
        near = [0] * 199 + [1, 0] + [1] * 199
        self.agree(passage(state, one, near), [one, near])
        self.refuses(InvalidBuild, {"given": [0] * 401}, opposite, State(FREE, [401, 0, 0]), [0] * 401, [0] * 401)
        self.agree(is_build(state, near), True)


if __name__ == "__main__":
    unittest.main()
