"""Points [35], [36], [43], [45] and [46] for rows of some hundred runs, which are followed run by run."""

import copy
import random
import unittest

from otherfirst.courses import Course
from otherfirst.decide import can_be_done, schedule_of
from otherfirst.errors import Impossible, NotComplete, NotLeast, Stopped
from otherfirst.leasts import is_why_least, least_schedule, why_least
from otherfirst.nets import Net
from otherfirst.runs import can_run, legal, open_tasks, run, safe
from otherfirst.schedules import is_complete, is_schedule, run_all
from otherfirst.states import State
from tests.helpers import Case, random_lasts, random_net

ROW = [((node, True), (node + 1, True)) for node in range(23)]


def great_state(owners):
    """24 nodes in a row, a shared task for each two neighbours, and 77 own tasks, all of them left four times."""
    return State(Net(24, ROW + [((owner, True),) for owner in owners]), [4] * 100)


# Own tasks four at a time, of node 0, of node 1 and so on, so that the last node has just its shared task.
CROWDED = great_state([task // 4 for task in range(77)])
# Own tasks of one node after the other, in turn.
IN_TURN = great_state([task % 24 for task in range(77)])
# Own tasks four at a time, of every fifth node, so that both ends of the row have some.
BY_FIVES = great_state([task // 4 * 5 % 24 for task in range(77)])
ALONE = State(Net(1, [((0, True),)] * 21), [4] * 18 + [3] * 3)


def slow_schedule(state):
    """The least safe task, again and again, with a new state for each run."""
    found = []
    while safe(state):
        found.append(safe(state)[0])
        state = run(state, found[-1])
    return found


def slow_reasons(state, schedule):
    found = []
    for at, due in enumerate(schedule):
        for task in range(due):
            if state.load[task]:
                closed = [node for node in state.net.ends(task) if task not in open_tasks(state, node)]
                found.append((at, task, closed))
        state = run(state, due)
    return found


def great_random_states(seed, number):
    """States of greater nets that can be done."""
    rng = random.Random(seed)
    found = []
    while len(found) < number:
        net = random_net(rng, 9, 24)
        state = State(net, [rng.randint(0, 4) for _ in range(len(net))], random_lasts(rng, net))
        if can_be_done(state):
            found.append(state)
    return found


class GreatStateTest(Case):
    def test_the_row_that_schedule_of_tells_is_complete(self):
        for state in (IN_TURN, BY_FIVES, ALONE):
            before = copy.deepcopy(state)
            schedule = schedule_of(state)
            self.assertEqual(len(schedule), state.total())
            self.agree([is_complete(state, schedule), is_schedule(state, schedule)], [True, True])
            behind = run_all(state, schedule)
            self.agree([behind.total(), behind.net == state.net], [0, True])
            for node in range(state.net.nodes):
                self.agree(behind.lasts[node], [task for task in schedule if node in state.net.ends(task)][-1])
            self.assertEqual(state, before)
            self.agree([is_complete(state, schedule[:-1]), is_schedule(state, schedule[:-1])], [False, True])
            self.agree([is_complete(state, schedule[1:]), is_complete(state, schedule + [0])], [False, False])

    def test_what_why_least_tells_is_judged_good(self):
        for state in (IN_TURN, BY_FIVES, ALONE):
            schedule = least_schedule(state)
            reasons = why_least(state, schedule)
            self.agree(reasons, [(at, task, closed[0]) for at, task, closed in slow_reasons(state, schedule)])
            self.agree(is_why_least(state, schedule, reasons), True)
            self.agree(is_why_least(state, tuple(schedule), tuple(reasons)), True)
            self.agree([is_why_least(state, schedule, reasons[:-1]), is_why_least(state, schedule, reasons[::-1]),
                        is_why_least(state, schedule[::-1], reasons)], [False] * 3)
            at, task, node = reasons[-1]
            self.agree(is_why_least(state, schedule, reasons[:-1] + [(at, task, 23 - node)]), node == 23 - node)

    def test_no_exchange_of_neighbours_makes_the_least_schedule_less(self):
        for state in (IN_TURN, BY_FIVES, ALONE):
            least = least_schedule(state)
            complete = 0
            for at in range(len(least) - 1):
                other = least[:at] + [least[at + 1], least[at]] + least[at + 2:]
                if is_complete(state, other):
                    complete += 1
                    self.assertLessEqual(least, other)
                    if other != least:
                        passed = [(index, task) for index, task, closed in slow_reasons(state, other[:at + 2])
                                  if closed == []]
                        self.refuses(NotLeast, {"at": passed[0][0], "task": passed[0][1]}, why_least, state, other)
                        self.agree(is_why_least(state, other, []), False)
                else:
                    self.refuses(NotComplete, {"schedule": other}, why_least, state, other)
            self.assertGreater(complete, 5)

    def test_a_state_that_cannot_be_done(self):
        for call in (schedule_of, least_schedule):
            self.refuses(Impossible, {"defect": ("often", 23, 22)}, call, CROWDED)
        some = [22, 21, 20, 19, 18, 23]
        behind = run_all(CROWDED, some)
        self.agree([behind.load, behind.lasts],
                   [(4,) * 18 + (3,) * 6 + (4,) * 76, (23,) + (None,) * 17 + (18, 18, 19, 20, 21, 22)])
        self.agree([is_schedule(CROWDED, some), is_complete(CROWDED, some)], [True, False])
        self.refuses(NotComplete, {"schedule": some}, why_least, CROWDED, some)
        self.agree(is_why_least(CROWDED, some, []), False)
        # Node 23 has nothing else to run, so its one task stops there.
        self.refuses(Stopped, {"at": 6, "reached": behind}, run_all, CROWDED, some + [22, 0])
        self.agree([is_schedule(CROWDED, some + [22]), is_complete(CROWDED, some + [22])], [False, False])


class SlowTest(Case):
    def test_a_new_state_for_each_run_leads_to_the_same(self):
        longest = 0
        for state in great_random_states(8, 60):
            schedule = slow_schedule(state)
            self.agree([schedule_of(state), least_schedule(state)], [schedule, schedule])
            self.agree(why_least(state, schedule), [(at, task, closed[0]) for at, task, closed
                                                    in slow_reasons(state, schedule)])
            longest = max(longest, len(schedule))
        self.assertGreater(longest, 40)

    def test_any_rows_of_runs(self):
        rng = random.Random(9)
        for state in great_random_states(10, 60):
            start, row = state, []
            while legal(state):
                row.append(rng.choice(legal(state)))
                state = run(state, row[-1])
            self.assertEqual(run_all(start, row), state)
            self.agree([is_schedule(start, row), is_complete(start, row)], [True, state.total() == 0])
            wrong = [task for task in range(len(state.net)) if not can_run(state, task)]
            for task in wrong[:3]:
                self.refuses(Stopped, {"at": len(row), "reached": state}, run_all, start, row + [task, 0])
                self.agree([is_schedule(start, row + [task]), is_complete(start, row + [task])], [False, False])

    def test_at_each_moment_a_course_tells_what_the_state_tells(self):
        rng = random.Random(11)
        for start in great_random_states(12, 25):
            state, course = start, Course(start)
            while legal(state):
                tasks = range(len(state.net))
                self.assertEqual(course.reached(), state)
                self.agree(course.is_over(), state.total() == 0)
                self.agree([task for task in tasks if course.can_run(task)], legal(state))
                self.agree(course.least_safe(), min(safe(state), default=None))
                for task in tasks:
                    if state.load[task]:
                        self.agree(course.closers(task), [node for node in state.net.ends(task)
                                                          if task not in open_tasks(state, node)])
                task = rng.choice(safe(state) if rng.random() < 0.7 and safe(state) else legal(state))
                course.run(task)
                state = run(state, task)
            self.agree(course.least_safe(), None)
            self.agree(start == course.reached(), start.total() == 0)


if __name__ == "__main__":
    unittest.main()
