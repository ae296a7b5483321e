"""Point [166]: air."""

import itertools
import random
import unittest

from otherfirst.air import air_defect, air_keeping, air_schedule, is_air_schedule, touching
from otherfirst.decide import defect
from otherfirst.errors import Impossible, InvalidAir, InvalidTask, TooMany
from otherfirst.nets import Net
from otherfirst.states import State
from tests import judge
from tests.helpers import EMPTY, LONG, ROW, Case, all_states, any_values, no_tasks_of, random_lasts
from tests.test_clubs import is_done_by, least_schedule

# Two tasks that nobody minds, and one that is minded.
NET = Net(3, [((0, False), (1, False)), ((0, False), (2, False)), ((1, True),)])
DUO = Net(2, [((0, False), (1, False))])
TWINS = Net(2, [((0, False), (1, False)), ((0, False), (1, False)), ((0, True), (1, True)), ((0, False), (1, True))])


def air_moves(air):
    """The tasks that can be run with air, by the words of the document."""
    def moves(net, load, lasts):
        return [task for task in judge.moves(net, load, lasts)
                if task not in air or any(lasts[node] != task for node in net.ends(task))]
    return moves


def random_cases(seed, number, most_runs=8):
    """Tuples of a state and air of its net."""
    rng = random.Random(seed)
    found = []
    while len(found) < number:
        nodes = rng.randint(2, 4)
        tasks = []
        for _ in range(rng.randint(1, 5)):
            one, other = sorted(rng.sample(range(nodes), 2))
            if rng.random() < 0.6:
                tasks.append(((one, False), (other, False)))
            elif rng.random() < 0.5:
                tasks.append(((one, rng.random() < 0.8), (other, rng.random() < 0.8)))
            else:
                tasks.append(((one, rng.random() < 0.7),))
        net = Net(nodes, tasks)
        state = State(net, [rng.choice((0, 1, 1, 2, 3)) for _ in tasks], random_lasts(rng, net))
        if state.total() <= most_runs:
            found.append((state, [task for task in airy(net) if rng.random() < 0.8]))
    return found


def airy(net):
    """All shared tasks that neither end minds."""
    return [task for task, ends in enumerate(net.tasks) if len(ends) == 2 and not ends[0][1] and not ends[1][1]]


def defect_by_words(state, air):
    net = state.net
    often = judge.often(net, state.load, state.lasts)
    if often:
        return ("often",) + often[0]
    for task in air:
        near = sum(left for other, left in enumerate(state.load)
                   if other != task and set(net.ends(other)) & set(net.ends(task)))
        if state.load[task] > near + 1 - all(state.lasts[node] == task for node in net.ends(task)):
            return ("close", task)
    # What is left of the defect without air is a ring.
    return defect(state)


class TouchingTest(Case):
    def test_by_words(self):
        for state, _ in random_cases(1, 200):
            for task in range(len(state.net)):
                near = [other for other in range(len(state.net))
                        if other != task and set(state.net.ends(other)) & set(state.net.ends(task))]
                self.agree(touching(state, task), sum(state.load[other] for other in near))

    def test_touching(self):
        self.agree([touching(state=State(NET, [5, 3, 2]), task=task) for task in range(3)], [5, 5, 5])
        # A task with both ends in common counts once.
        self.agree([touching(State(TWINS, [1, 2, 4, 8]), task) for task in range(4)], [14, 13, 11, 7])
        self.agree([touching(State(DUO, [LONG]), 0), touching(State(NET, [0, LONG, LONG]), 0)], [0, 2 * LONG])
        self.refuses_all(InvalidTask, no_tasks_of(NET), lambda task: touching(State(NET, [1, 1, 1]), task))


class AirTest(Case):
    def test_a_search_agrees(self):
        seen = {}
        for state, air in random_cases(2, 3000) + [(state, air) for state in all_states(TWINS, 1) for air in ([0], [0, 1])]:
            moves = air_moves(air)
            args = (state.net, state.load, state.lasts)
            wanted = least_schedule(*args, moves)
            found = air_defect(state, air)
            self.agree([found, found is None], [defect_by_words(state, air), wanted is not None])
            keeping = [task for task in moves(*args)
                       if least_schedule(state.net, *judge.behind(*args, task), moves) is not None]
            self.agree(air_keeping(state, air), keeping)
            if wanted is None:
                self.refuses(Impossible, {"defect": found}, air_schedule, state, air)
            else:
                order = air_schedule(state, air)
                self.agree([type(order), air_schedule(state, tuple(air))], [list, order])
                self.assertTrue(is_done_by(*args, moves, order))
                self.agree(is_air_schedule(state, air, order), True)
                self.assertTrue(keeping != [] or state.total() == 0)
            seen[found and found[0]] = seen.get(found and found[0], 0) + 1
        self.assertEqual(set(seen), {None, "often", "close", "ring"})
        self.assertGreater(min(seen["often"], seen["close"], seen[None]), 200)

    def test_defects_in_order(self):
        state = State(TWINS, [9, 1, 3, 0], [2, 2])
        self.agree(air_defect(state=state, air=[0, 1]), ("close", 0))
        net = Net(4, [((0, True), (1, True)), ((0, True), (1, True)), ((2, False), (3, False)), ((2, False), (3, False)), ((0, True),)])
        both = State(net, [1, 1, 3, 1, 0], [0, 1, None, None])
        self.agree([air_defect(both, [2, 3]), air_defect(both, [3]), air_defect(both, [])],
                   [("close", 2), ("ring", [(0, 0), (1, 1)]), ("ring", [(0, 0), (1, 1)])])
        self.agree(air_defect(State(net, [1, 1, 3, 1, 4], [0, 1, None, None]), [2, 3]), ("often", 0, 4))
        self.agree(air_defect(State(net, [1, 1, 1, 3, 0]), [2, 3]), ("close", 3))
        self.agree(air_defect(State(net, [0, 0, 2, 4, 0]), [2, 3]), ("close", 3))

    def test_close(self):
        # One more than all that touches it; one less if it was run last by both of its ends.
        self.agree([air_defect(State(NET, [3, 1, 1]), [0]), air_defect(State(NET, [3, 1, 1], [0, 0, None]), [0]),
                    air_defect(State(NET, [3, 1, 1], [0, None, None]), [0]), air_defect(State(NET, [4, 1, 1]), [0])],
                   [None, ("close", 0), None, ("close", 0)])
        self.agree([air_defect(State(NET, [4, 1, 1]), []), air_defect(State(NET, [4, 1, 1]), ())], [None, None])
        self.agree([air_defect(State(DUO, [1]), [0]), air_defect(State(DUO, [1], [0, 0]), [0]), air_defect(State(DUO, [0], [0, 0]), [0])],
                   [None, ("close", 0), None])
        # Without runs left, too, it may be none too often.
        self.agree(air_keeping(State(DUO, [0], [0, 0]), [0]), [])

    def test_great_counts(self):
        self.agree(air_defect(State(NET, [LONG, LONG - 2, 1]), [0, 1]), None)
        self.agree(air_defect(State(NET, [LONG, LONG - 3, 1]), [0, 1]), ("close", 0))
        self.agree(air_keeping(State(NET, [LONG, LONG - 2, 1]), [0, 1]), [0])
        self.agree(air_keeping(State(NET, [LONG, LONG, 1]), [0, 1]), [0, 1, 2])

    def test_air_schedule(self):
        self.agree([air_schedule(state=State(NET, [2, 0, 1]), air=[0]), air_keeping(state=State(NET, [2, 0, 1]), air=[0])], [[0, 2, 0], [0]])
        self.agree([air_schedule(State(EMPTY, []), []), air_schedule(State(NET, [0, 0, 0], [0, 0, 1]), [0, 1])], [[], []])
        self.new_each_time(lambda: air_schedule(State(NET, [2, 0, 1]), [0]))
        self.new_each_time(lambda: air_keeping(State(NET, [2, 0, 1]), [0]))
        self.unchanged(air_schedule, State(NET, [2, 0, 1]), [0])
        self.refuses(Impossible, {"defect": ("close", 0)}, air_schedule, State(NET, [3, 0, 1]), [0])

    def test_at_most_400_runs(self):
        self.agree(air_schedule(State(NET, [200, 200, 0]), [0, 1]), [0, 1] * 200)
        self.refuses(TooMany, {"count": 401}, air_schedule, State(NET, [201, 200, 0]), [0, 1])
        # Too many comes ahead of what cannot be done.
        self.refuses(TooMany, {"count": 401}, air_schedule, State(NET, [401, 0, 0]), [0])
        self.refuses(Impossible, {"defect": ("close", 0)}, air_schedule, State(NET, [400, 0, 0]), [0])
        self.agree(is_air_schedule(State(NET, [401, 0, 0]), [], [0] * 401), False)
        self.agree([is_air_schedule(State(NET, [400, 0, 0]), [], [0] * 400), air_schedule(State(NET, [400, 0, 0]), [])],
                   [True, [0] * 400])

    def test_great_nets(self):
        rng = random.Random(3)
        done = 0
        for _ in range(30):
            nodes = rng.randint(6, 24)
            pairs = [sorted(rng.sample(range(nodes), 2)) for _ in range(60)]
            tasks = [((one, False), (other, False)) if rng.random() < 0.7 else ((one, True), (other, True)) for one, other in pairs]
            net = Net(nodes, tasks)
            state = State(net, [rng.randint(0, 9) for _ in tasks])
            air = airy(net)
            self.agree(air_defect(state, air), defect_by_words(state, air))
            if air_defect(state, air) is None:
                order = air_schedule(state, air)
                self.assertTrue(is_done_by(net, state.load, state.lasts, air_moves(air), order))
                done += 1
        self.assertGreater(done, 5)

    def test_refusals(self):
        wrong = [None, True, 0, "", "0", {}, NET, [2], [0, 2], [1, 0], [0, 0], [3], [-1], [True], [False], [0, True], [None],
                 ["0"], [0.0], [[0]], [(0,)], [0, None], (0, 1, 2)]
        state = State(NET, [LONG] * 3)
        calls = [air_defect, air_schedule, air_keeping, lambda state, air: is_air_schedule(state, air, None)]
        for call in calls:
            self.refuses_all(InvalidAir, wrong, lambda air: call(state, air))
            self.refuses(InvalidAir, {"given": [0]}, call, State(ROW, [1, 1, 1]), [0])
            for ends in (((0, True), (1, True)), ((0, True), (1, False)), ((0, False), (1, True)), ((0, False),)):
                self.refuses(InvalidAir, {"given": [0]}, call, State(Net(2, [ends]), [LONG]), [0])


class IsAirScheduleTest(Case):
    def test_all_small_lists(self):
        right = 0
        for state, air in random_cases(4, 60, 4) + [(State(DUO, [2]), [0]), (State(DUO, [1], [0, 0]), [0])]:
            moves = air_moves(air)
            for value in itertools.product(range(len(state.net)), repeat=state.total()):
                wanted = is_done_by(state.net, state.load, state.lasts, moves, value)
                self.agree([is_air_schedule(state, air, list(value)), is_air_schedule(state, tuple(air), value)], [wanted] * 2)
                right += wanted
        self.assertGreater(right, 60)

    def test_each_condition_broken_alone(self):
        state = State(NET, [2, 0, 1])
        self.agree([is_air_schedule(state=state, air=[0], value=value) for value in ([0, 2, 0], (0, 2, 0))], [True, True])
        for value in [[0, 2], [0, 2, 0, 0], [0, 0, 2], [2, 0, 0], [0, 2, 1], [0, 2, False], [False, 2, 0], [0, 2, 0.0], [0, 2, None],
                      [0, 2, 3], [0, 2, -3], [[0, 2, 0]], {}, None, "020", []]:
            self.agree(is_air_schedule(state, [0], value), False)
        self.agree([is_air_schedule(state, [], value) for value in ([0, 0, 2], [2, 0, 0], [0, 2, 0])], [True] * 3)
        # A task is in the way only while it is the last of both of its ends.
        self.agree([is_air_schedule(State(NET, [1, 0, 0], lasts), [0], [0]) for lasts in ([0, 0, None], [0, None, None], [1, 0, 1])],
                   [False, True, True])

    def test_any_value(self):
        for value in any_values():
            self.agree(is_air_schedule(State(NET, [2, 0, 1]), [0], value), False)
            self.agree(is_air_schedule(State(NET, [2, 0, 1]), [0], [0, 2, value]), repr(value) == "0")
            self.agree(is_air_schedule(State(EMPTY, []), [], value), value in ([], ()))


if __name__ == "__main__":
    unittest.main()
