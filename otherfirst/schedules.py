"""Schedules: lists of tasks that are run one behind the other."""

from otherfirst.checks import check_minded, check_node, check_schedule, check_task, is_task_list
from otherfirst.errors import Stopped
from otherfirst.runs import can_run, run


def run_all(state, schedule):
    """The state behind all tasks of a schedule."""
    check_schedule(state.net, schedule)
    for at, task in enumerate(schedule):
        if not can_run(state, task):
            raise Stopped(at, state)
        state = run(state, task)
    return state


def is_schedule(state, value):
    """Whether any value is a list of tasks that can be run, one behind the other, from the state."""
    return _behind(state, value) is not None


def is_complete(state, value):
    """Whether any value is such a list behind which nothing is left."""
    reached = _behind(state, value)
    return reached is not None and reached.total() == 0


def own_row(net, schedule, node):
    """The tasks of a schedule that are at a node, in order."""
    check_schedule(net, schedule)
    check_node(net, node)
    return [task for task in schedule if node in net.ends(task)]


def wastes(state, schedule, node, task):
    """The indices of the runs that waste a slack of the task at the node."""
    check_schedule(state.net, schedule)
    check_node(state.net, node)
    check_task(state.net, task)
    check_minded(state.net, task, node)
    run_all(state, schedule)
    found = []
    last = state.lasts[node]
    for at, other in enumerate(schedule):
        if node in state.net.ends(other):
            if other != task and last != task:
                found.append(at)
            last = other
    return found


def _behind(state, value):
    """The state behind a value that is a schedule, and None behind any other one."""
    if not is_task_list(state.net, value):
        return None
    for task in value:
        if not can_run(state, task):
            return None
        state = run(state, task)
    return state
