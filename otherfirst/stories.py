"""Stories: schedules told by the own rows of the nodes alone, and forests, where any own rows fit together."""

from otherfirst.checks import check_many, check_schedule
from otherfirst.errors import NotForest
from otherfirst.kinds import are_integers, is_index, is_row
from otherfirst.rows import count_own_rows, laid, listed_rows
from otherfirst.trees import steps_back, toward

MOST_CHOICES = 200


def story_of(net, schedule):
    """The own rows of all nodes in a schedule."""
    check_schedule(net, schedule)
    rows = [[] for _ in range(net.nodes)]
    for task in schedule:
        for node in net.ends(task):
            rows[node].append(task)
    return tuple([tuple(row) for row in rows])


def stories(state):
    """The stories of all complete schedules, ascending."""
    total = state.total()
    check_many(total)
    number = _count_choices(state)
    check_many(number, MOST_CHOICES)
    if number == 0:
        return []
    choices = [()]
    for node in range(state.net.nodes):
        orders = [tuple(order) for order in listed_rows(state, node)]
        choices = [choice + (order,) for choice in choices for order in orders]
    return [choice for choice in choices if len(laid(state.net, choice)[0]) == total]


def count_stories(state):
    """The number of the stories of a state of a forest."""
    check_forest(state.net)
    return _count_choices(state)


def forest_ring(net):
    """A ring of nodes, or None in a forest."""
    task = _closing_task(net)
    if task is None:
        return None
    node, other = net.ends(task)
    return steps_back(net, toward(net, other, task), node, other) + [(other, task)]


def is_forest_ring(net, value):
    """Whether any value is a ring of nodes of the net; it may begin with any of its nodes."""
    if not is_row(value) or len(value) < 2 or not all([are_integers(item, 2) for item in value]):
        return False
    nodes = [node for node, _ in value]
    tasks = [task for _, task in value]
    if len(set(nodes)) < len(nodes) or len(set(tasks)) < len(tasks):
        return False
    if not all([is_index(task, len(net)) for task in tasks]):
        return False
    pairs = [tuple(sorted(pair)) for pair in zip(nodes, nodes[1:] + nodes[:1])]
    return [net.ends(task) for task in tasks] == pairs


def check_forest(net):
    """Raises an error unless the net is a forest."""
    ring = forest_ring(net)
    if ring is not None:
        raise NotForest(ring)


def _count_choices(state):
    """The number of ways to choose one own row of each node."""
    numbers = [count_own_rows(state, node) for node in range(state.net.nodes)]
    product = 1
    for number in numbers:
        product *= number
    return product


def _closing_task(net):
    """The first shared task whose ends the tasks ahead of it join already, or None."""
    groups = list(range(net.nodes))
    for task in range(len(net)):
        first, *others = [groups[node] for node in net.ends(task)]
        if first in others:
            return task
        groups = [first if group in others else group for group in groups]
    return None
