"""Greatest loads: the most of each task that can be done within bounds, all at once, and why."""

from heapq import heappop, heappush

from otherfirst.checks import check_task
from otherfirst.decide import can_be_done
from otherfirst.errors import InvalidBounds, InvalidNumber, NotThatOften
from otherfirst.kinds import is_count, is_index, is_row, is_tuple_of
from otherfirst.lasts import check_sound
from otherfirst.nets import check_lasts, is_load
from otherfirst.states import State
from otherfirst.tallies import Tally


def greatest(net, lasts, bounds):
    """The greatest load within the bounds that can be done."""
    _check_bounds(net, lasts, bounds)
    check_sound(net, lasts)
    return greatest_within(net, lasts, bounds)


def is_greatest(net, lasts, bounds, value):
    """Whether any value is a load within the bounds that can be done and in which nothing can be more."""
    _check_bounds(net, lasts, bounds)
    if not is_load(net, value) or not is_within(value, bounds):
        return False
    if not can_be_done(State(net, value, lasts)):
        return False
    tally = Tally(net, value, lasts)
    return all([value[task] == bounds[task] or not tally.can_grow(task) for task in range(len(net))])


def reasons(net, lasts, bounds):
    """A tuple (task, value, node) for each task: what bounds it, in an order in which each rests on earlier ones."""
    _check_bounds(net, lasts, bounds)
    check_sound(net, lasts)
    return _reasons(net, lasts, bounds)


def is_reasons(net, lasts, bounds, value):
    """Whether any value is a list of reasons for the bounds."""
    _check_bounds(net, lasts, bounds)
    if not is_row(value) or len(value) != len(net):
        return False
    values = {}
    for item in value:
        if not _is_reason(net, lasts, bounds, values, item):
            return False
        values[item[0]] = item[1]
    load = [values[task] for task in range(len(net))]
    return is_within(load, bounds) and Tally(net, load, lasts).is_fine()


def level(net, lasts, bounds, task, number):
    """A load within the bounds that can be done and has the task just so often."""
    _check_bounds(net, lasts, bounds)
    check_task(net, task)
    if not is_count(number):
        raise InvalidNumber(number)
    check_sound(net, lasts)
    most = greatest_within(net, lasts, bounds)[task]
    if number > most:
        raise NotThatOften(most)
    lesser = list(bounds)
    lesser[task] = number
    return greatest_within(net, lasts, lesser)


def greatest_within(net, lasts, bounds):
    """What greatest returns, for lasts and bounds that are known to be right."""
    values = {task: number for task, number, _ in _reasons(net, lasts, bounds)}
    return tuple([values[task] for task in range(len(net))])


def is_within(load, bounds):
    return all([left <= most for left, most in zip(load, bounds)])


def _check_bounds(net, lasts, bounds):
    check_lasts(net, lasts)
    if not is_load(net, bounds):
        raise InvalidBounds(bounds)


def _reasons(net, lasts, bounds):
    """The least value that can be told of any task yet is settled first: a sum is never below its parts."""
    # An item of the queue is (value, task, node), with -1 for the bounds, as None has no order.
    queue = []
    for task, most in enumerate(bounds):
        heappush(queue, (most, task, -1))
    missing = [len(net.marks(node)) for node in range(net.nodes)]
    for node in range(net.nodes):
        _tell(queue, net, lasts, {}, missing, node)
    values = {}
    found = []
    while queue:
        number, task, node = heappop(queue)
        if task not in values:
            values[task] = number
            found.append((task, number, None if node < 0 else node))
            for end in net.ends(task):
                missing[end] -= 1
                _tell(queue, net, lasts, values, missing, end)
    return found


def _tell(queue, net, lasts, values, missing, node):
    """Puts into the queue what a node tells of its only task without a value, if it minds that task."""
    if missing[node] == 1:
        for task, minds in net.marks(node):
            if minds and task not in values:
                heappush(queue, (_told_at(net, lasts, values, node, task), task, node))


def _told_at(net, lasts, values, node, task):
    """The most of a task that the values of all other tasks at a node allow."""
    others = [values[other] for other, _ in net.marks(node) if other != task]
    return sum(others) + 1 - int(lasts[node] == task)


def _is_reason(net, lasts, bounds, values, item):
    """Whether a value is a reason that rests on the values ahead of it alone."""
    if not is_tuple_of(item, 3):
        return False
    task, number, node = item
    if not is_index(task, len(net)) or task in values or not is_count(number):
        return False
    if node is None:
        return number == bounds[task]
    if not is_index(node, net.nodes) or (node, True) not in net.tasks[task]:
        return False
    ahead = [other in values for other, _ in net.marks(node) if other != task]
    return all(ahead) and number == _told_at(net, lasts, values, node, task)
