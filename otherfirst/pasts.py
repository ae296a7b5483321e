"""Pasts: lists of tasks that leave given lasts, run one behind the other from fresh ones."""

from math import factorial

from otherfirst.checks import check_node, is_task_list
from otherfirst.cycles import way_from
from otherfirst.errors import NeverAhead, NoLast
from otherfirst.lasts import check_true, looks
from otherfirst.nets import check_lasts
from otherfirst.schedules import is_schedule, run_all
from otherfirst.states import State


def past_of(net, lasts):
    """A shortest past of true lasts."""
    check_true(net, lasts)
    nexts = _followers(net, lasts)
    return _in_order(nexts, list(nexts))


def is_past(net, lasts, value):
    """Whether any value is a past of these lasts."""
    check_lasts(net, lasts)
    if not is_task_list(net, value):
        return False
    # A load of just these runs counts as one without end.
    fresh = State(net, [value.count(task) for task in range(len(net))])
    return is_schedule(fresh, value) and run_all(fresh, value).lasts == tuple(lasts)


def count_pasts(net, lasts):
    """The number of all shortest pasts of true lasts."""
    check_true(net, lasts)
    nexts = _followers(net, lasts)
    # No task has more than one follower, so the orders are those of a forest: the hook formula.
    number = factorial(len(nexts))
    for task in nexts:
        number = number // len(_leading(nexts, task))
    return number


def sure_order(net, lasts):
    """A tuple of two nodes for each latest run that every past has ahead of another one, ascending."""
    check_true(net, lasts)
    ahead = looks(net, lasts)
    found = []
    for node in range(net.nodes):
        for other in sorted(way_from(ahead, node)):
            if lasts[node] != lasts[other]:
                found.append((node, other))
    return found


def past_with(net, lasts, node, other):
    """A shortest past in which the latest run of the node is ahead of that of the other one."""
    check_lasts(net, lasts)
    check_node(net, node)
    check_node(net, other)
    check_true(net, lasts)
    for which in (node, other):
        if lasts[which] is None:
            raise NoLast(which)
    way = way_from(looks(net, lasts), other)
    if node in way:
        raise NeverAhead(way[:way.index(node) + 1])
    nexts = _followers(net, lasts)
    first = _in_order(nexts, _leading(nexts, lasts[node]))
    return first + _in_order(nexts, [task for task in nexts if task not in first])


def _followers(net, lasts):
    """For each task among the lasts the one that an end of it runs later, or None.

    One of the ends has the task as its last, so there is never more than one such task.
    """
    nexts = {}
    for task in lasts:
        if task is not None:
            later = [lasts[node] for node in net.ends(task) if lasts[node] != task]
            nexts[task] = later[0] if later else None
    return nexts


def _leading(nexts, task):
    """The tasks that are run ahead of a task in every past, and the task itself."""
    return [one for one in nexts if task in way_from(nexts, one)]


def _in_order(nexts, tasks):
    """The tasks, each ahead of its follower if that is among them, the least one first."""
    order = []
    left = list(tasks)
    while left:
        held = [nexts[task] for task in left]
        task = min([one for one in left if one not in held])
        order.append(task)
        left.remove(task)
    return order
