"""Gathering: how long the nodes of a tree can go on, told by the ways to one node."""

from otherfirst.checks import check_node, check_schedule, check_task
from otherfirst.courses import run_off
from otherfirst.errors import Barred, NotTree, Stopped
from otherfirst.heads import check_plain, tops
from otherfirst.nets import check_lasts
from otherfirst.states import State
from otherfirst.stories import forest_ring
from otherfirst.trees import lengths, steps_back, toward


def way(net, node, other):
    """The tasks on the way from a node to another one, in order."""
    check_tree(net)
    check_node(net, node)
    check_node(net, other)
    return [task for _, task in steps_back(net, toward(net, other), node, other)]


def gathering(net, lasts, node):
    """The sum of the lengths of the ways to a node of all nodes that do not look towards it."""
    _check_tree_lasts(net, lasts)
    check_node(net, node)
    return _gathering(net, lasts, node)


def longest(net, lasts):
    """The least gathering of a node, and the least node that has it."""
    _check_tree_lasts(net, lasts)
    return _longest(net, lasts)


def longest_day(net, lasts):
    """As many tasks as can be run one behind the other, if each is left without end."""
    _check_tree_lasts(net, lasts)
    # Lasts in a tree have no circle, and the tops can be done all at once.
    return run_off(State(net, tops(net, lasts), lasts))


def ledger(net, lasts, schedule, node):
    """By how much each run of a schedule lowers the gathering of a node."""
    _check_tree_lasts(net, lasts)
    check_schedule(net, schedule)
    check_node(net, node)
    first = toward(net, node)
    far_off = lengths(net, first)
    now = tuple(lasts)
    found = []
    for at, task in enumerate(schedule):
        if barring(net, now, task):
            raise Stopped(at, now)
        near = [end for end in net.ends(task) if first[end] != task][0]
        found.append(1 if now[near] == first[near] else 1 + far_off[near])
        now = lasts_behind(net, now, task)
    return found


def toll(net, lasts, task):
    """How many runs are lost if the task is run now."""
    _check_tree_lasts(net, lasts)
    check_task(net, task)
    nodes = barring(net, lasts, task)
    if nodes:
        raise Barred(nodes)
    return _longest(net, lasts)[0] - 1 - _longest(net, lasts_behind(net, lasts, task))[0]


def check_tree(net):
    """Raises an error unless the net is plain, and a tree."""
    check_plain(net)
    ring = forest_ring(net)
    if ring is not None:
        raise NotTree(("ring", ring))
    met = toward(net, 0)
    apart = [node for node in range(net.nodes) if node not in met]
    if apart:
        raise NotTree(("apart", apart[0]))


def barring(net, lasts, task):
    """The ends of a task of a plain net that bar it, ascending."""
    return [node for node in net.ends(task) if lasts[node] == task]


def lasts_behind(net, lasts, task):
    """The lasts behind a run."""
    ends = net.ends(task)
    return tuple([task if node in ends else last for node, last in enumerate(lasts)])


def _check_tree_lasts(net, lasts):
    check_lasts(net, lasts)
    check_tree(net)


def _gathering(net, lasts, node):
    first = toward(net, node)
    far_off = lengths(net, first)
    return sum([far_off[other] for other in first if lasts[other] != first[other]])


def _longest(net, lasts):
    return min([(_gathering(net, lasts, node), node) for node in range(net.nodes)])
