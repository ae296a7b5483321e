"""Runs: which tasks can be run, which are safe and which spoil the rest."""

from otherfirst.checks import check_node, check_task
from otherfirst.errors import Barred, NothingLeft
from otherfirst.local import open_in
from otherfirst.states import State, rows_of, urgent


def legal(state):
    """The tasks that can be run, ascending."""
    return [task for task in range(len(state.net)) if can_run(state, task)]


def can_run(state, task):
    return state.load[task] > 0 and bars(state, task) == []


def bars(state, task):
    """The ends that bar a task, ascending, whether it is left or not."""
    check_task(state.net, task)
    return [node for node, minds in state.net.tasks[task] if minds and state.lasts[node] == task]


def run(state, task):
    """The state behind a run of a task."""
    check_task(state.net, task)
    if state.load[task] == 0:
        raise NothingLeft(task)
    nodes = bars(state, task)
    if nodes:
        raise Barred(nodes)
    load = list(state.load)
    load[task] -= 1
    lasts = list(state.lasts)
    for node in state.net.ends(task):
        lasts[node] = task
    return State(state.net, load, lasts)


def open_tasks(state, node):
    """The tasks that a node leaves open, ascending."""
    check_node(state.net, node)
    return open_in(rows_of(state, node), state.lasts[node])


def safe(state):
    """The safe tasks, ascending."""
    opened = [open_tasks(state, node) for node in range(state.net.nodes)]
    return [task for task in range(len(state.net)) if all([task in opened[node] for node in state.net.ends(task)])]


def spoils(state):
    """A tuple (task, node, other) for each task that can be run and is not safe, ascending."""
    kept = safe(state)
    hasty = [urgent(state, node) for node in range(state.net.nodes)]
    found = []
    for task in legal(state):
        if task not in kept:
            nodes = [node for node in state.net.ends(task) if hasty[node] not in (None, task)]
            found.append((task, nodes[0], hasty[nodes[0]]))
    return found
