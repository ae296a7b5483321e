"""Point [165]: clubs."""

import itertools
import random
import unittest

from otherfirst.clubs import club_schedule, is_club_fence
from otherfirst.errors import InvalidClubs, NoSchedule, TooMany
from otherfirst.nets import Net
from otherfirst.states import State
from tests import judge
from tests.helpers import EMPTY, LONG, TRIANGLE, Case, any_values, random_states
from tests.test_gangs import is_fence_by_words, standings_from

NET = Net(3, [((0, False), (1, False)), ((0, False), (2, False)), ((1, True),)])
START = ((1, 0, 0), (1, None, 1))


def club_moves(clubs):
    """The tasks that can be run with clubs, by the words of the document."""
    def moves(net, load, lasts):
        found = []
        for task in judge.moves(net, load, lasts):
            ends = net.ends(task)
            shunned = False
            for node in ends:
                seen = [] if lasts[node] is None else [end for end in net.ends(lasts[node]) if end != node]
                other = [end for end in ends if end != node]
                shunned = shunned or bool(seen and other and clubs[seen[0]] == clubs[other[0]])
            if not shunned:
                found.append(task)
        return found
    return moves


def least_schedule(net, load, lasts, moves):
    """The least complete schedule, or None, by a search."""
    known = {}

    def least(load, lasts):
        if sum(load) == 0:
            return []
        if (load, lasts) not in known:
            known[(load, lasts)] = None
            for task in moves(net, load, lasts):
                rest = least(*judge.behind(net, load, lasts, task))
                if rest is not None:
                    known[(load, lasts)] = [task] + rest
                    break
        return known[(load, lasts)]

    return least(tuple(load), tuple(lasts))


def is_done_by(net, load, lasts, moves, order):
    for task in order:
        if task not in moves(net, load, lasts):
            return False
        load, lasts = judge.behind(net, load, lasts, task)
    return sum(load) == 0


class ScheduleTest(Case):
    def test_a_search_agrees(self):
        rng = random.Random(1)
        seen = {True: 0, False: 0}
        shut = 0
        for state in random_states(2, 700, most_nodes=4, most_tasks=4):
            net = state.net
            clubs = [rng.choice((-1, 0, 7, LONG)) if rng.random() < 0.5 else rng.randrange(2) for _ in range(net.nodes)]
            moves = club_moves(clubs)
            wanted = least_schedule(net, state.load, state.lasts, moves)
            if wanted is None:
                fence = self.fence_of(state, clubs)
                self.assertTrue(is_fence_by_words(net, state.load, state.lasts, fence, moves))
                self.agree(is_club_fence(state, clubs, fence), True)
                shut += judge.done(net, state.load, state.lasts)
            else:
                found = club_schedule(state, clubs)
                self.agree([type(found), club_schedule(state, tuple(clubs))], [list, found])
                self.assertTrue(is_done_by(net, state.load, state.lasts, moves, found))
            standings = list(standings_from(net, state.load, state.lasts, moves))
            self.agree(is_club_fence(state, clubs, standings), wanted is None)
            seen[wanted is None] += 1
        self.assertGreater(min(seen.values()), 150)
        self.assertGreater(shut, 30)

    def fence_of(self, state, clubs):
        with self.assertRaises(NoSchedule) as caught:
            club_schedule(state, clubs)
        fence = caught.exception.fence
        self.assertIs(type(fence), list)
        for standing in fence:
            self.agree([type(standing), [type(part) for part in standing]], [tuple, [tuple, tuple]])
        with self.assertRaises(NoSchedule) as again:
            club_schedule(State(state.net, list(state.load), list(state.lasts)), tuple(clubs))
        self.agree(again.exception.fence, fence)
        self.assertIsNot(again.exception.fence, fence)
        return fence

    def test_club_schedule(self):
        # Node 0 runs its two shared tasks one behind the other only if the other ends are in different clubs.
        state = State(NET, [1, 1, 0])
        self.assertIn(club_schedule(state=state, clubs=[0, 1, 2]), ([0, 1], [1, 0]))
        self.fence_of(state, [0, 1, 1])
        # Also behind itself, though nobody minds it; its own club does not matter, nor do own tasks.
        self.fence_of(State(NET, [2, 0, 0]), [0, 1, 2])
        self.assertIn(club_schedule(State(NET, [1, 1, 0]), [1, 1, 2]), ([0, 1], [1, 0]))
        own = Net(2, [((0, False), (1, False)), ((0, False),), ((1, False),)])
        self.agree(club_schedule(State(own, [2, 1, 1]), [3, 3])[::3], [0, 0])
        self.agree([club_schedule(State(EMPTY, []), [0, 0]), club_schedule(State(NET, [0, 0, 0], [0, 0, 1]), [5, 5, 5])], [[], []])
        self.agree(club_schedule(State(own, [0, 9, 9]), [0, 0]).count(1), 9)
        self.new_each_time(lambda: club_schedule(State(NET, [1, 1, 0]), [0, 1, 2]))
        self.unchanged(club_schedule, State(NET, [1, 1, 0]), [0, 1, 2])

    def test_products_at_most_100(self):
        free = Net(1, [((0, False),)] * 4)
        self.agree(club_schedule(State(free, [99, 0, 0, 0]), [0]), [0] * 99)
        self.agree(len(club_schedule(State(free, [4, 4, 3, 0]), [0])), 11)
        self.refuses(TooMany, {"count": 101}, club_schedule, State(free, [100, 0, 0, 0]), [0])
        self.refuses(TooMany, {"count": 102}, club_schedule, State(free, [1, 50, 0, 0]), [0])
        self.refuses(TooMany, {"count": (LONG + 1) ** 3}, club_schedule, State(NET, [LONG] * 3), [0, 0, 0])
        wide = Net(24, [((node % 24, False),) for node in range(100)])
        self.agree(len(club_schedule(State(wide, [1] * 6 + [0] * 94), list(range(24)))), 6)
        self.refuses(TooMany, {"count": 128}, club_schedule, State(wide, [1] * 7 + [0] * 93), list(range(24)))

    def test_refusals(self):
        wrong = [None, True, 0, "", "000", {}, NET, [], [0, 0], [0, 0, 0, 0], [0, 0, None], [True, 0, 0], [0, 0, False],
                 [0, 0, "0"], [0, 0, 0.0], [[0], 0, 0], [(0, 0, 0)]]
        state = State(NET, [LONG] * 3)
        for call in (club_schedule, lambda state, clubs: is_club_fence(state, clubs, None)):
            self.refuses_all(InvalidClubs, wrong, lambda clubs: call(state, clubs))


class IsFenceTest(Case):
    def test_all_sets_of_standings(self):
        net = Net(2, [((0, False), (1, False)), ((1, False),)])
        standings = [(load, lasts) for load in ((0, 0), (1, 0), (0, 1), (1, 1)) for lasts in ((0, 0), (0, None), (0, 1))]
        right = 0
        for load, lasts in (((1, 0), (0, 0)), ((1, 1), (0, 1)), ((1, 0), (0, None)), ((1, 1), (0, 0))):
            state = State(net, load, lasts)
            for clubs in ([0, 0], [0, 1]):
                for size in range(4):
                    for value in itertools.combinations(standings, size):
                        wanted = is_fence_by_words(net, load, lasts, value, club_moves(clubs))
                        self.agree(is_club_fence(state, clubs, value), wanted)
                        right += wanted
        self.assertGreater(right, 40)

    def judge_of(self, value, clubs=(0, 5, 5)):
        return is_club_fence(state=State(NET, *START), clubs=clubs, value=value)

    def test_each_condition_broken_alone(self):
        for value in ([START], (START,), [START, START], [([1, 0, 0], [1, None, 1])], [START, ((2, 0, 0), (1, None, 1))]):
            self.agree(self.judge_of(value), True)
        self.agree([self.judge_of([START], clubs) for clubs in ([0, 5, 6], [5, 5, 0], [-1, LONG, LONG])], [False, False, True])
        for value in [[], [list(START)], [START, ((0, 0, 0), (1, None, 1))], [START, ((1, 0, 0), (None, None, None))],
                      [((True, 0, 0), (1, None, 1))], [((1, False, 0), (1, None, 1))], [((1, 0, 0), (True, None, 1))],
                      [((1, 0), (1, None, 1))], [((1, 0, 0), (1, None))], [((1, 0, 0), (1, None, 1), 0)], [((1, 0, 0),)],
                      [((1.0, 0, 0), (1, None, 1))], [((1, 0, 0), (1.0, None, 1))], START, None, {}, "", [None], [START, None],
                      [START, ((1, 0, 0), (2, None, 1))], [((2, 0, 0), (1, None, 1))], [START, ((1, 0, -1), (1, None, 1))]]:
            self.agree(self.judge_of(value), False)

    def test_any_value(self):
        for value in any_values():
            self.agree([self.judge_of(value), self.judge_of([START, value])], [False, False])
            self.agree([self.judge_of([(START[0], value)]), self.judge_of([(value, START[1])])], [False, False])

    def test_no_too_many(self):
        stuck = ((LONG, 0, 0), (1, None, 1))
        self.agree(is_club_fence(State(NET, *stuck), [0, 5, 5], [stuck]), True)
        self.agree(is_club_fence(State(NET, [LONG] * 3), [0, 0, 0], []), False)
        self.agree(is_club_fence(State(TRIANGLE, [LONG] * 3, [0, 1, 2]), [0, 1, 2], [((LONG,) * 3, (0, 1, 2))]), True)


if __name__ == "__main__":
    unittest.main()
