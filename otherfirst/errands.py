"""Errands: ways that cover a load twice, and loads that can be run off again and again."""

from otherfirst.checks import check_many
from otherfirst.decide import can_be_done
from otherfirst.errors import InvalidNumber, NotForEver
from otherfirst.kinds import MOST_RUNS, is_index, is_row
from otherfirst.lasts import check_sound
from otherfirst.states import State, work


def repeated(state, number):
    """The state in which each task is left so many times as often."""
    if not is_index(number, MOST_RUNS + 1):
        raise InvalidNumber(number)
    return State(state.net, [left * number for left in state.load], state.lasts)


def times_over(state):
    """How many times over the load can be run off: 0, 1, or None for any number of times."""
    check_sound(state.net, state.lasts)
    if not can_be_done(state):
        return 0
    return None if _heavy(state) is None else 1


def is_errand(net, value):
    """Whether any value is an errand of the net."""
    if not is_row(value) or len(value) < 3:
        return False
    row = list(value)
    tasks = row[::2]
    nodes = row[1::2]
    if not all([is_index(task, len(net)) for task in tasks]) or not all([is_index(node, net.nodes) for node in nodes]):
        return False
    if len(tasks) > len(nodes):
        return _leads(net, tasks, [[]] + [[node] for node in nodes] + [[]]) and not _turns(net, tasks, nodes)
    if not _leads(net, tasks, [[node] for node in nodes[-1:] + nodes]):
        return False
    return not _turns(net, tasks + tasks[:1], nodes)


def errands(state):
    """Errands in which each task comes, in all of them together, just twice as often as it is left."""
    check_many(state.total())
    heavy = _heavy(state)
    if heavy is not None:
        node, task = heavy
        raise NotForEver(node, task)
    net = state.net
    parts = [task for task, left in enumerate(state.load) for _ in range(2 * left)]
    mates = _mates(net, parts)
    own = [part for part, task in enumerate(parts) if len(net.ends(task)) == 1]
    found = []
    done = {}
    # An errand that has an own task begins with it; those that are left are closed.
    for start in own + list(range(len(parts))):
        if start not in done:
            errand, used = _trace(net, parts, mates, start)
            for part in used:
                done[part] = True
            found.append(errand)
    return found


def is_errands(state, value):
    """Whether any value is such a list of errands, in any order."""
    if not is_row(value) or not all([is_errand(state.net, item) for item in value]):
        return False
    tasks = [task for item in value for task in item[::2]]
    return [tasks.count(task) for task in range(len(state.net))] == [2 * left for left in state.load]


def _heavy(state):
    """The first end, by nodes and then by tasks, that minds a task left more often than half its work, or None."""
    for node in range(state.net.nodes):
        runs = work(state, node)
        for task, minds in state.net.marks(node):
            if minds and 2 * state.load[task] > runs:
                return (node, task)
    return None


def _leads(net, tasks, places):
    """Whether each task has as its ends just what stands directly ahead of it and behind it."""
    pairs = [sorted(ahead + behind) for ahead, behind in zip(places, places[1:])]
    return all([list(net.ends(task)) == pair for task, pair in zip(tasks, pairs)])


def _turns(net, tasks, nodes):
    """Whether some node turns on a task that it minds."""
    turned = [(node, one) for one, other, node in zip(tasks, tasks[1:], nodes) if one == other]
    return any([(node, True) in net.tasks[task] for node, task in turned])


def _mates(net, parts):
    """For each node and each part at it, the part that comes behind or ahead of it there in an errand.

    The parts stand by their tasks, so those half of all apart are of one task only if it has more than half.
    """
    mates = {}
    for node in range(net.nodes):
        here = [part for part, task in enumerate(parts) if node in net.ends(task)]
        half = len(here) // 2
        for one, other in zip(here, here[half:]):
            mates[(node, one)] = other
            mates[(node, other)] = one
    return mates


def _trace(net, parts, mates, start):
    """The errand from a part on, until an own task or the first part comes, and the parts that it uses."""
    errand = [parts[start]]
    used = [start]
    node = net.ends(parts[start])[-1]
    while node is not None:
        errand.append(node)
        part = mates[(node, used[-1])]
        if part == start:
            break
        errand.append(parts[part])
        used.append(part)
        node = net.far(parts[part], node)
    return errand, used
