"""Schedules: lists of tasks that are run one behind the other."""

from otherfirst.checks import check_minded, check_node, check_schedule, check_task, is_task_list
from otherfirst.courses import Course
from otherfirst.errors import Stopped


def run_all(state, schedule):
    """The state behind all tasks of a schedule."""
    check_schedule(state.net, schedule)
    course = Course(state)
    at = _follow(course, schedule)
    if at < len(schedule):
        raise Stopped(at, course.reached())
    return course.reached()


def is_schedule(state, value):
    """Whether any value is a list of tasks that can be run, one behind the other, from the state."""
    return is_task_list(state.net, value) and _follow(Course(state), value) == len(value)


def is_complete(state, value):
    """Whether any value is such a list behind which nothing is left."""
    if not is_task_list(state.net, value):
        return False
    course = Course(state)
    return _follow(course, value) == len(value) and course.is_over()


def own_row(net, schedule, node):
    """The tasks of a schedule that are at a node, in order."""
    check_schedule(net, schedule)
    check_node(net, node)
    return [task for task in schedule if node in net.ends(task)]


def wastes(state, schedule, node, task):
    """The indices of the runs that waste a slack of the task at the node."""
    check_schedule(state.net, schedule)
    check_node(state.net, node)
    check_task(state.net, task)
    check_minded(state.net, task, node)
    run_all(state, schedule)
    found = []
    last = state.lasts[node]
    for at, other in enumerate(schedule):
        if node in state.net.ends(other):
            if other != task and last != task:
                found.append(at)
            last = other
    return found


def _follow(course, schedule):
    """Runs the tasks of a schedule until one cannot be run; the number of those that were run."""
    for at, task in enumerate(schedule):
        if not course.can_run(task):
            return at
        course.run(task)
    return len(schedule)
