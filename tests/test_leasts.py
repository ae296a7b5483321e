"""Points [45], [46] and [47]: least schedules, why they are, and states that are stuck."""

import unittest

from otherfirst.decide import can_be_done, defect
from otherfirst.errors import Impossible, InvalidSchedule, NotComplete, NotLeast, NotStuck, TooMany
from otherfirst.leasts import held_up, is_why_least, least_schedule, stuck, why_least
from otherfirst.nets import Net
from otherfirst.rings import rings
from otherfirst.runs import bars, legal, open_tasks, safe
from otherfirst.schedules import run_all
from otherfirst.states import State, fine
from tests.helpers import (
    EMPTY, LONG, PAIR, ROW, TRIANGLE, Case, all_states, any_values, no_schedules_of, random_states,
)
from tests.judge import Search

CHAIN = Net(4, [((0, True), (1, True)), ((1, True), (2, True)), ((2, True), (3, True))])
STATE = State(CHAIN, [1, 2, 1])
FREE = Net(1, [((0, False),)])
MINDED = Net(1, [((0, True),)])
RING = State(TRIANGLE, [1, 1, 1], [0, 1, 2])


def searched_states():
    states = all_states(PAIR, 2) + all_states(TRIANGLE, 1) + random_states(31, 300)
    return [state for state in states if state.total() < 7]


def reasons(state, schedule):
    """The words of point [46]: for each task passed over, all ends that do not leave it open."""
    found = []
    for at, due in enumerate(schedule):
        ahead = run_all(state, schedule[:at])
        for task in range(due):
            if ahead.load[task] > 0:
                ends = [node for node in state.net.ends(task) if task not in open_tasks(ahead, node)]
                found.append((at, task, ends))
    return found


class LeastTest(Case):
    def test_a_search_of_all_rows_of_runs_finds_the_same(self):
        for state in searched_states():
            least = Search(state.net).least(state.load, state.lasts)
            if least is None:
                self.refuses(Impossible, {"defect": defect(state)}, least_schedule, state)
            else:
                self.agree(least_schedule(state), least)

    def test_least_schedule(self):
        self.agree(least_schedule(state=STATE), [1, 0, 2, 1])
        self.agree(least_schedule(State(EMPTY, [])), [])
        self.new_each_time(lambda: least_schedule(STATE))

    def test_errors(self):
        self.refuses(Impossible, {"defect": ("ring", [(0, 0), (1, 1), (2, 2)])}, least_schedule, RING)
        self.refuses(Impossible, {"defect": ("often", 0, 0)}, least_schedule, State(MINDED, [400]))
        self.refuses(TooMany, {"count": 401}, least_schedule, State(MINDED, [401]))
        self.refuses(TooMany, {"count": 401}, least_schedule, State(FREE, [401]))
        self.agree(least_schedule(State(FREE, [400])), [0] * 400)


class WhyLeastTest(Case):
    def test_why_least(self):
        self.agree(why_least(STATE, [1, 0, 2, 1]), [(0, 0, 1), (2, 1, 2)])
        self.agree(why_least(state=STATE, schedule=(1, 0, 2, 1)), [(0, 0, 1), (2, 1, 2)])
        self.agree([why_least(State(EMPTY, []), []), why_least(State(ROW, [0, 0, 0]), ())], [[], []])
        self.new_each_time(lambda: why_least(STATE, [1, 0, 2, 1]))

    def test_the_least_end_is_told(self):
        # Ahead of the second run both ends bar task 0.
        state = State(PAIR, [1, 1], [0, 0])
        self.agree(why_least(state, [1, 0]), [(0, 0, 0)])
        state = State(Net(2, [((0, False), (1, True)), ((1, True),)]), [1, 1], [0, 0])
        self.agree(why_least(state, [1, 0]), [(0, 0, 1)])

    def test_refusals(self):
        self.refuses_all(InvalidSchedule, no_schedules_of(CHAIN)[:-2], lambda schedule: why_least(STATE, schedule))
        self.refuses_all(InvalidSchedule, [[0] * 401], lambda schedule: why_least(State(FREE, [401]), schedule))
        for schedule in ([], [1], [1, 0, 1], [0, 1, 1, 2], (1, 1, 0, 2), [1, 0, 2, 1, 0]):
            caught = self.refuses(NotComplete, {"schedule": schedule}, why_least, STATE, schedule)
            self.assertIs(caught.schedule, schedule)
        self.refuses(NotComplete, {"schedule": [0] * 400}, why_least, State(FREE, [LONG]), [0] * 400)
        self.refuses(NotLeast, {"at": 1, "task": 0}, why_least, STATE, [1, 2, 0, 1])

    def test_the_first_and_least_safe_task_passed_over(self):
        state = State(Net(1, [((0, False),)] * 4), [1, 1, 1, 1])
        self.refuses(NotLeast, {"at": 1, "task": 1}, why_least, state, [0, 3, 2, 1])
        self.refuses(NotLeast, {"at": 0, "task": 0}, why_least, state, [3, 2, 1, 0])
        self.agree(why_least(state, [0, 1, 2, 3]), [])

    def test_a_schedule_is_the_least_one_exactly_if_it_passes_over_no_safe_task(self):
        for state in searched_states():
            if state.total() < 6:
                self.judge_all(state, Search(state.net).all(state.load, state.lasts))

    def judge_all(self, state, schedules):
        for schedule in schedules:
            passed = reasons(state, schedule)
            wrong = [(at, task) for at, task, ends in passed if ends == []]
            self.assertEqual(wrong == [], schedule == schedules[0])
            if wrong:
                self.refuses(NotLeast, {"at": wrong[0][0], "task": wrong[0][1]}, why_least, state, schedule)
                self.assertIn(wrong[0][1], safe(run_all(state, schedule[:wrong[0][0]])))
            else:
                told = [(at, task, ends[0]) for at, task, ends in passed]
                self.agree(why_least(state, schedule), told)
            self.agree(is_why_least(state, schedule, [(at, task, (ends + [0])[0]) for at, task, ends in passed]),
                       wrong == [])
            self.agree(is_why_least(state, tuple(schedule), tuple((at, task, (ends + [0])[-2 if ends else 0])
                                                                  for at, task, ends in passed)), wrong == [])


class IsWhyLeastTest(Case):
    def test_right_ones(self):
        for value in ([(0, 0, 1), (2, 1, 2)], ((0, 0, 1), (2, 1, 2))):
            self.agree(is_why_least(STATE, (1, 0, 2, 1), value), True)
        self.agree(is_why_least(state=State(EMPTY, []), schedule=[], value=[]), True)

    def test_any_end_that_does_not_leave_it_open(self):
        state = State(PAIR, [1, 1], [0, 0])
        self.agree([is_why_least(state, [1, 0], [(0, 0, node)]) for node in (0, 1, 2, -1)], [True, True, False, False])

    def test_wrong_ones(self):
        for value in [
            [], [(0, 0, 1)], [(2, 1, 2)], [(2, 1, 2), (0, 0, 1)], [(0, 0, 1), (2, 1, 2), (2, 1, 2)],
            [(0, 0, 0), (2, 1, 2)], [(0, 0, 1), (2, 1, 1)], [(0, 0, 1), (2, 1, 3)], [(1, 0, 1), (2, 1, 2)],
            [(0, 1, 1), (2, 1, 2)], [(0, 0, True), (2, 1, 2)], [(False, 0, 1), (2, 1, 2)], [(0, False, 1), (2, 1, 2)],
            [[0, 0, 1], (2, 1, 2)], [(0, 0, 1), (2, 1, 2, 0)], [(0, 0), (2, 1)], [None, None], None, {}, "",
            [(0, 0, None), (2, 1, 2)], [(0, 0, [1]), (2, 1, 2)], [(0, 0, "1"), (2, 1, 2)], [0, 1],
        ]:
            self.agree(is_why_least(STATE, [1, 0, 2, 1], value), False)

    def test_a_schedule_that_is_not_complete(self):
        for schedule in ([], [1], [0, 1, 1, 2], [1, 0, 2]):
            self.agree([is_why_least(STATE, schedule, value) for value in ([], [(0, 0, 1)], None)], [False] * 3)

    def test_a_safe_task_passed_over(self):
        for node in range(4):
            self.agree(is_why_least(STATE, [1, 2, 0, 1], [(0, 0, 1), (1, 0, node)]), False)
        self.agree(is_why_least(STATE, [1, 2, 0, 1], [(0, 0, 1)]), False)

    def test_wrong_schedules(self):
        for value in ([], None, [(0, 0, 1)]):
            self.refuses_all(InvalidSchedule, no_schedules_of(CHAIN), lambda row: is_why_least(STATE, row, value))

    def test_any_value(self):
        for state, schedule in ((STATE, [1, 0, 2, 1]), (State(EMPTY, []), []), (State(FREE, [1]), [0])):
            for value in any_values():
                self.agree(is_why_least(state, schedule, value), schedule != [1, 0, 2, 1] and value in ([], ()))


class StuckTest(Case):
    def test_stuck(self):
        self.agree([stuck(STATE), stuck(State(EMPTY, [])), stuck(State(ROW, [0, 0, 0], [0, 0, 1]))], [False] * 3)
        self.agree([stuck(state=RING), stuck(State(CHAIN, [1, 1, 0], [0, 1, None, None]))], [True, True])
        self.agree(stuck(State(MINDED, [LONG], [0])), True)

    def test_a_state_is_stuck_if_no_row_of_runs_can_begin(self):
        for state in searched_states() + all_states(TRIANGLE, 2):
            self.agree(stuck(state), state.total() > 0 and legal(state) == [])

    def test_with_fine_counts_all_that_is_left_lies_in_rings(self):
        stuck_ones = 0
        for state in all_states(TRIANGLE, 2) + all_states(PAIR, 2) + searched_states():
            if fine(state):
                closed = [task for ring in rings(state) for _, task in ring]
                left = [task for task in range(len(state.net)) if state.load[task] > 0]
                self.agree(stuck(state), left != [] and all(task in closed for task in left))
                stuck_ones += stuck(state)
                self.assertFalse(stuck(state) and can_be_done(state))
        self.assertGreater(stuck_ones, 4)


class HeldUpTest(Case):
    def test_held_up(self):
        self.agree(held_up(State(CHAIN, [1, 1, 0], [0, 1, None, None])), [(0, 0), (1, 1)])
        self.agree(held_up(state=RING), [(0, 0), (1, 1), (2, 2)])
        self.agree(held_up(State(CHAIN, [1, 0, 0], [None, 0, None, None])), [(0, 1)])
        self.new_each_time(lambda: held_up(RING))

    def test_not_stuck(self):
        self.refuses(NotStuck, {"task": 0}, held_up, STATE)
        self.refuses(NotStuck, {"task": 2}, held_up, State(CHAIN, [1, 1, 1], [0, 1, None, None]))
        self.refuses(NotStuck, {"task": None}, held_up, State(CHAIN, [0, 0, 0], [0, 1, None, None]))
        self.refuses(NotStuck, {"task": None}, held_up, State(EMPTY, []))

    def test_all_small_states(self):
        for state in all_states(TRIANGLE, 1) + searched_states():
            if stuck(state):
                left = [task for task in range(len(state.net)) if state.load[task] > 0]
                self.agree(held_up(state), [(task, bars(state, task)[0]) for task in left])
            else:
                least = legal(state)[0] if state.total() else None
                self.refuses(NotStuck, {"task": least}, held_up, state)


if __name__ == "__main__":
    unittest.main()
