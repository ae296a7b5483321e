"""Days: lists of tasks of a tree that go on until nothing can be run."""

from otherfirst.checks import check_task
from otherfirst.errors import InvalidNumber, NoDay
from otherfirst.gathers import barring, check_tree, lasts_behind, longest
from otherfirst.heads import check_plain
from otherfirst.kinds import is_count, is_index, is_row
from otherfirst.local import order_in
from otherfirst.nets import check_lasts
from otherfirst.nexts import behind
from otherfirst.states import State, rows_of
from otherfirst.trees import lengths, toward


def middles(net):
    """The nodes to which the ways of all nodes have the least sum of lengths, ascending."""
    check_tree(net)
    sums = [sum(list(lengths(net, toward(net, node)).values())) for node in range(net.nodes)]
    return [node for node, number in enumerate(sums) if number == min(sums)]


def outward(net):
    """For each node the number of all nodes whose way to the least middle comes to it."""
    first = toward(net, middles(net)[0])
    numbers = [1] * net.nodes
    for node in list(first)[:0:-1]:
        numbers[net.far(first[node], node)] += numbers[node]
    return numbers


def is_day(net, lasts, value):
    """Whether any value is a list of tasks that can be run from the lasts and behind which none can be run."""
    check_lasts(net, lasts)
    check_plain(net)
    if not is_row(value) or not all([is_index(task, len(net)) for task in value]):
        return False
    reached = lasts_behind_all(net, lasts, value)
    return reached is not None and all([barring(net, reached, task) != [] for task in range(len(net))])


def end_of_day(net, task):
    """The lasts behind each day whose last task is this one."""
    check_tree(net)
    check_task(net, task)
    node, other = net.ends(task)
    first = toward(net, node, task)
    first.update(toward(net, other, task))
    return tuple([first[at] for at in range(net.nodes)])


def shortest_day(net, task):
    """A day that has each task once and ends with the given one."""
    check_tree(net)
    check_task(net, task)
    day = []
    for node in net.ends(task):
        # What is farthest from the task comes first, so that each node looks towards it in the end.
        tasks = list(toward(net, node, task).values())
        day.extend(tasks[:0:-1])
    return day + [task]


def day_of(net, number):
    """A day of so many tasks."""
    check_tree(net)
    if not is_count(number):
        raise InvalidNumber(number)
    least = net.nodes - 1
    most, middle = longest(net, (None,) * net.nodes)
    if not least <= number <= most:
        raise NoDay(least, most)
    if number == 0:
        return []
    load = _load_of_day(net, middle, number)
    # Each node but the middle ends with its first task on its way there, and the middle with any task.
    task = order_in(rows_of(State(net, load), middle), None)[-1]
    return behind(net, load, end_of_day(net, task))


def lasts_behind_all(net, lasts, tasks):
    """The lasts behind some tasks of a plain net, or None if one of them is barred when it is due."""
    for task in tasks:
        if barring(net, lasts, task):
            return None
        lasts = lasts_behind(net, lasts, task)
    return tuple(lasts)


def _load_of_day(net, middle, number):
    """So many runs: one of each task, and then one more at a time, the nearest to the middle first.

    No task comes to more than the nodes behind it. So each node can have its first task on the way to the middle at
    the end, for that has at most one run more than its others.
    """
    first = toward(net, middle)
    most = outward(net)
    load = [1] * len(net)
    left = number - len(net)
    while left > 0:
        for node in list(first)[1:]:
            task = first[node]
            if left > 0 and load[task] < most[node]:
                load[task] += 1
                left -= 1
    return load
