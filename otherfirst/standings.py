"""Standings: tuples of a load and lasts, and all of those to which runs lead."""

from otherfirst.checks import check_many
from otherfirst.errors import NoSchedule
from otherfirst.kinds import is_row, is_tuple_of
from otherfirst.nets import is_lasts, is_load

MOST_PRODUCT = 100


def find_schedule(net, load, lasts, moves):
    """A complete schedule from a load and lasts; a function of these tells which tasks can be run."""
    product = 1
    for left in load:
        product *= left + 1
    check_many(product, MOST_PRODUCT)
    start = (tuple(load), tuple(lasts))
    ahead = {start: None}
    queue = [start]
    while queue:
        standing = queue.pop()
        left, ran = standing
        if not any(left):
            return _tasks_to(ahead, standing)
        for task in moves(left, ran):
            reached = _behind(net, standing, task)
            if reached not in ahead:
                ahead[reached] = (standing, task)
                queue.append(reached)
    # At each standing to which runs lead something is left.
    raise NoSchedule(list(ahead))


def is_fence(net, load, lasts, value, moves):
    """Whether any value is a fence of a load and lasts."""
    if not is_row(value) or not all([_is_standing(net, item) for item in value]):
        return False
    within = {(tuple(item[0]), tuple(item[1])): True for item in value}
    if (tuple(load), tuple(lasts)) not in within:
        return False
    return all([_is_kept(net, within, standing, moves) for standing in within])


def _is_standing(net, value):
    return is_tuple_of(value, 2) and is_load(net, value[0]) and is_lasts(net, value[1])


def _is_kept(net, within, standing, moves):
    """Whether something is left at a standing, and each run from it leads to one of those within."""
    left, ran = standing
    return any(left) and all([_behind(net, standing, task) in within for task in moves(left, ran)])


def _behind(net, standing, task):
    """The standing behind a run."""
    load, lasts = standing
    ends = net.ends(task)
    lesser = tuple([left - int(other == task) for other, left in enumerate(load)])
    return (lesser, tuple([task if node in ends else last for node, last in enumerate(lasts)]))


def _tasks_to(ahead, standing):
    """The tasks of the runs that led to a standing."""
    found = []
    step = ahead[standing]
    while step is not None:
        standing, task = step
        found.append(task)
        step = ahead[standing]
    return found[::-1]
