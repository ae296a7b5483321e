"""Branches: parts of a net that hang on one task, and errands that have a task."""

from otherfirst.errors import NoErrand
from otherfirst.kinds import is_index, is_row


def is_closed_branch(net, task, node, value):
    """Whether any value is a list of different nodes that are a closed branch of the task at the node."""
    net.check_end(task, node)
    if not is_row(value) or not all([is_index(item, net.nodes) for item in value]):
        return False
    return sorted(value) == _closed_branch(net, task, node)


def errand_through(net, task):
    """An errand that has the task."""
    ends = net.ends(task)
    for node in ends:
        branch = _closed_branch(net, task, node)
        if branch is not None:
            raise NoErrand(node, branch)
    to_own = [_search(net, (task, node), False) for node in ends]
    if None in to_own:
        return _search(net, (task, ends[0]), True)
    # From one own task back to the task, and then on to the other own task.
    ahead = to_own[0][:0:-1] if len(ends) == 2 else []
    return ahead + to_own[-1]


def _closed_branch(net, task, node):
    """The closed branch of a task at a node, ascending, or None if there is none."""
    # The first task on the way from each node of the branch to the task.
    toward = {node: task}
    queue = [node]
    while queue:
        at = queue.pop()
        for other in net.at(at):
            if other != toward[at]:
                far = net.far(other, at)
                if far is None or far in toward:
                    return None
                toward[far] = other
                queue.append(far)
    # If the other end of the task is among them, so is a ring, and one of the two ways round was refused above.
    return sorted(toward) if all([net.minds(toward[at], at) for at in toward]) else None


def _search(net, start, closed):
    """The shortest way on from a task at one of its ends: to the same place again, or else to an own task.

    A place is a tuple of a task and the node that comes behind it. The way has tasks and nodes by turns.
    """
    ahead = {start: None}
    queue = [start]
    at = 0
    while at < len(queue):
        place = queue[at]
        for other in _onward(net, place):
            step = (other, net.far(other, place[1]))
            if closed and step == start:
                return _listed(ahead, place)
            if not closed and step[1] is None:
                return _listed(ahead, place) + [other]
            if step[1] is not None and step not in ahead:
                ahead[step] = place
                queue.append(step)
        at += 1
    return None


def _onward(net, place):
    """The tasks that may come behind a place: a node does not turn on a task that it minds."""
    task, node = place
    return [other for other, minds in net.marks(node) if other != task or not minds]


def _listed(ahead, place):
    """The tasks and nodes from the start of a search to a place."""
    row = []
    while place is not None:
        row = list(place) + row
        place = ahead[place]
    return row
