"""The least schedule, why it is the least one, and states that are stuck."""

from otherfirst.checks import check_schedule
from otherfirst.courses import Course, run_off
from otherfirst.decide import check_doable
from otherfirst.errors import NotComplete, NotLeast, NotStuck
from otherfirst.kinds import are_integers, is_row
from otherfirst.runs import bars, legal
from otherfirst.schedules import is_complete


def least_schedule(state):
    """The least of all complete schedules."""
    check_doable(state)
    # The runs that keep all the rest are the safe ones, so the least of them is the least beginning.
    return run_off(state)


def why_least(state, schedule):
    """For each task that a schedule passes over, a node that has to run another one first."""
    check_schedule(state.net, schedule)
    if not is_complete(state, schedule):
        raise NotComplete(schedule)
    found = []
    for at, task, nodes in _passed_over(state, schedule):
        if nodes == []:
            raise NotLeast(at, task)
        found.append((at, task, nodes[0]))
    return found


def is_why_least(state, schedule, value):
    """Whether any value tells why a schedule is the least one."""
    check_schedule(state.net, schedule)
    if not is_row(value) or not is_complete(state, schedule):
        return False
    passed = _passed_over(state, schedule)
    if len(value) != len(passed):
        return False
    return all([_is_why(item, row) for item, row in zip(value, passed)])


def stuck(state):
    """Whether anything is left and no task is legal."""
    return state.total() > 0 and legal(state) == []


def held_up(state):
    """For each task that is left, the least end that bars it, if the state is stuck."""
    if state.total() == 0:
        raise NotStuck(None)
    runnable = legal(state)
    if runnable:
        raise NotStuck(runnable[0])
    return [(task, bars(state, task)[0]) for task in range(len(state.net)) if state.load[task] > 0]


def _passed_over(state, schedule):
    """A tuple (at, task, nodes) for each task passed over, with the ends that do not leave it open."""
    course = Course(state)
    found = []
    for at, due in enumerate(schedule):
        for task, nodes in course.passed_over(due):
            found.append((at, task, nodes))
        course.run(due)
    return found


def _is_why(item, row):
    at, task, nodes = row
    return are_integers(item, 3) and item[:2] == (at, task) and item[2] in nodes
