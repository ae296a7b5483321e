"""Points [6] and [35] to [37]: schedules, own rows and wastes."""

import random
import unittest

from otherfirst.errors import InvalidNode, InvalidSchedule, InvalidTask, NotMinded, Stopped
from otherfirst.nets import Net
from otherfirst.runs import legal, run
from otherfirst.schedules import is_complete, is_schedule, own_row, run_all, wastes
from otherfirst.states import State, slack
from tests import judge
from tests.helpers import (
    EMPTY, LONG, PAIR, ROW, Case, any_values, no_nodes_of, no_schedules_of, no_tasks_of, random_states,
)

STATE = State(ROW, [1, 2, 1])
FREE = Net(1, [((0, False),)])


def some_schedule(rng, state):
    """A random list of tasks that can be run from a state."""
    schedule = []
    while legal(state) and rng.random() < 0.9:
        schedule.append(rng.choice(legal(state)))
        state = run(state, schedule[-1])
    return schedule


class RunAllTest(Case):
    def test_run_all(self):
        self.assertEqual(run_all(STATE, [2, 1, 0]), State(ROW, [0, 1, 0], [0, 0, 1]))
        self.assertEqual(run_all(state=STATE, schedule=(2, 1, 0)), State(ROW, [0, 1, 0], [0, 0, 1]))

    def test_the_empty_schedule(self):
        for schedule in ([], ()):
            self.assertEqual(run_all(STATE, schedule), STATE)
        self.assertEqual(run_all(State(EMPTY, []), []), State(EMPTY, []))

    def test_run_all_refuses(self):
        self.refuses_all(InvalidSchedule, no_schedules_of(ROW), lambda schedule: run_all(STATE, schedule))
        self.refuses(InvalidSchedule, {"given": [0]}, run_all, State(EMPTY, []), [0])

    def test_a_wrong_task_counts_ahead_of_one_that_cannot_be_run(self):
        self.refuses(InvalidSchedule, {"given": [0, 0, 3]}, run_all, STATE, [0, 0, 3])

    def test_stopped(self):
        self.refuses(Stopped, {"at": 3, "reached": State(ROW, [0, 1, 0], [0, 1, 1])}, run_all, STATE, [2, 0, 1, 1])
        self.refuses(Stopped, {"at": 0, "reached": State(ROW, [0, 2, 1])}, run_all, State(ROW, [0, 2, 1]), (0,))
        self.refuses(Stopped, {"at": 2, "reached": State(ROW, [0, 1, 1], [0, 0, 1])}, run_all, STATE, [1, 0, 0, 0])

    def test_four_hundred_tasks(self):
        state = State(FREE, [LONG])
        self.agree(run_all(state, [0] * 400).load, (LONG - 400,))
        self.refuses(InvalidSchedule, {"given": [0] * 401}, run_all, state, [0] * 401)

    def test_the_schedule_is_not_changed(self):
        schedule = [2, 1, 0]
        run_all(STATE, schedule)
        wastes(STATE, schedule, 1, 0)
        own_row(ROW, schedule, 1)
        is_complete(STATE, schedule)
        self.assertEqual(schedule, [2, 1, 0])


class JudgeTest(Case):
    def test_is_schedule(self):
        for value in ([], (), [2, 1, 0], (1, 0, 1, 2), [0]):
            self.agree(is_schedule(STATE, value), True)
        for value in ([1, 1], [2, 2], [0, 1, 0], [0, 0], [True], [1, False], [3], [-1], [[1]], [(1,)], ["1"], "1"):
            self.agree(is_schedule(STATE, value), False)

    def test_is_complete(self):
        for value in ([1, 0, 1, 2], (1, 2, 0, 1), [2, 1, 0, 1]):
            self.agree(is_complete(state=STATE, value=value), True)
        for value in ([], (), [1, 0, 1], [1, 0, 2, 1, 2], [1, 1, 0, 2], [0, 1, 1, 2]):
            self.agree(is_complete(STATE, value), False)
        self.agree([is_complete(State(EMPTY, []), []), is_complete(State(ROW, [0, 0, 0]), ())], [True, True])

    def test_other_values(self):
        for judged in (is_schedule, is_complete):
            for value in no_schedules_of(ROW):
                self.agree(judged(State(ROW, [0, 0, 0]), value), False)
            for value in any_values():
                self.assertIn(judged(STATE, value), (True, False))
            self.agree(judged(State(EMPTY, []), None), False)

    def test_true_and_false_are_no_tasks(self):
        self.agree([is_schedule(STATE, [0]), is_schedule(STATE, [False]), is_complete(STATE, [True, 0, 1, 2])],
                   [True, False, False])

    def test_four_hundred_tasks(self):
        state = State(FREE, [400])
        self.agree([is_schedule(state, [0] * 400), is_complete(state, [0] * 400)], [True, True])
        state = State(FREE, [401])
        self.agree([is_schedule(state, [0] * 400), is_complete(state, [0] * 400)], [True, False])
        self.agree([is_schedule(state, [0] * 401), is_complete(state, [0] * 401)], [False, False])

    def test_a_search_finds_the_same(self):
        for state in random_states(10, 150, most_tasks=3):
            found = judge.Search(state.net).all(state.load, state.lasts) if state.total() < 6 else []
            for schedule in found:
                self.agree([is_schedule(state, schedule), is_complete(state, tuple(schedule))], [True, True])
                self.agree(is_complete(state, schedule[:-1]), schedule == [])


class OwnRowTest(Case):
    def test_own_row(self):
        self.agree(own_row(ROW, [1, 0, 1, 2], 2), [1, 1, 2])
        self.agree(own_row(net=ROW, schedule=(1, 0, 1, 2), node=0), [0])
        self.agree(own_row(ROW, [], 1), [])
        self.agree(own_row(ROW, [2, 2], 1), [])
        self.new_each_time(lambda: own_row(ROW, [1, 0, 1, 2], 2))

    def test_a_schedule_that_cannot_be_run(self):
        self.agree(own_row(ROW, [2, 2, 2, 1, 1], 2), [2, 2, 2, 1, 1])
        self.agree(own_row(ROW, [2] * 400, 2), [2] * 400)

    def test_own_row_refuses(self):
        self.refuses_all(InvalidSchedule, no_schedules_of(ROW), lambda schedule: own_row(ROW, schedule, 0))
        self.refuses_all(InvalidNode, no_nodes_of(ROW), lambda node: own_row(ROW, [0], node))
        self.refuses(InvalidSchedule, {"given": [3]}, own_row, ROW, [3], 3)


class WastesTest(Case):
    def test_wastes(self):
        self.agree(wastes(STATE, [1, 0, 1, 2], 1, 1), [])
        self.agree(wastes(state=STATE, schedule=(1, 0, 1, 2), node=1, task=0), [0])
        self.agree(wastes(STATE, [2, 1, 0, 1], 2, 2), [3])
        self.agree(wastes(STATE, [], 1, 1), [])
        self.new_each_time(lambda: wastes(STATE, [1, 0, 1, 2], 1, 0))

    def test_a_run_behind_the_task_is_no_waste(self):
        state = State(ROW, [1, 2, 1], [None, 0, None])
        self.agree(wastes(state, [1], 1, 0), [])
        self.agree(wastes(STATE, [1], 1, 0), [0])

    def test_a_run_behind_another_task_is_a_waste(self):
        net = Net(1, [((0, True),), ((0, False),), ((0, True),)])
        state = State(net, [1, 3, 2])
        self.agree(wastes(state, [2, 1, 1, 0, 1, 2], 0, 0), [0, 1, 2, 5])

    def test_runs_of_other_nodes_are_no_wastes(self):
        self.agree(wastes(STATE, [2, 0, 1], 0, 0), [])

    def test_the_slack_falls_by_the_wastes(self):
        rng = random.Random(11)
        for state in random_states(11, 300, most_left=3):
            schedule = some_schedule(rng, state)
            reached = run_all(state, schedule)
            for task, ends in enumerate(state.net.tasks):
                for node, minds in ends:
                    if minds:
                        fall = slack(state, task, node) - slack(reached, task, node)
                        self.assertEqual(len(wastes(state, schedule, node, task)), fall)

    def test_wastes_refuses(self):
        self.refuses_all(InvalidSchedule, no_schedules_of(ROW), lambda schedule: wastes(STATE, schedule, 1, 1))
        self.refuses_all(InvalidNode, no_nodes_of(ROW), lambda node: wastes(STATE, [1], node, 1))
        self.refuses_all(InvalidTask, no_tasks_of(ROW), lambda task: wastes(STATE, [1], 1, task))
        self.refuses(NotMinded, {"task": 1, "node": 2}, wastes, STATE, [1], 2, 1)
        self.refuses(NotMinded, {"task": 0, "node": 2}, wastes, STATE, [1], 2, 0)
        self.refuses(Stopped, {"at": 1, "reached": State(ROW, [1, 1, 1], [None, 1, 1])}, wastes, STATE, [1, 1], 1, 1)

    def test_the_order_of_errors(self):
        self.refuses(InvalidSchedule, {"given": [3]}, wastes, STATE, [3], 3, 3)
        self.refuses(InvalidNode, {"given": 3}, wastes, STATE, [1, 1], 3, 3)
        self.refuses(InvalidTask, {"given": 3}, wastes, STATE, [1, 1], 2, 3)
        self.refuses(NotMinded, {"task": 1, "node": 2}, wastes, STATE, [1, 1], 2, 1)


class PairTest(Case):
    def test_tasks_with_equal_ends(self):
        state = State(PAIR, [2, 2])
        self.agree(is_complete(state, [0, 1, 0, 1]), True)
        self.agree(is_complete(state, [0, 1, 1, 0]), False)
        self.agree(wastes(state, [0, 1, 0, 1], 0, 1), [0])


if __name__ == "__main__":
    unittest.main()
