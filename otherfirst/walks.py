"""Walks: what falls if a run is struck from a load that can be done."""

from otherfirst.checks import check_many, check_node, check_task
from otherfirst.decide import check_possible
from otherfirst.errors import NothingLeft
from otherfirst.greatest import greatest_within
from otherfirst.kinds import are_integers, is_index, is_row
from otherfirst.lasts import check_sound
from otherfirst.nets import check_lasts, check_load
from otherfirst.states import State
from otherfirst.tallies import Tally


def lowered(net, lasts, load, task):
    """The load that is left if a run of the task is struck, and the walks that strike further ones."""
    check_lasts(net, lasts)
    check_load(net, load)
    check_task(net, task)
    check_sound(net, lasts)
    check_possible(State(net, load, lasts))
    if load[task] == 0:
        raise NothingLeft(task)
    tally = Tally(net, load, lasts)
    tally.change(task, -1)
    walks = []
    for node in net.ends(task):
        walks.append(_walk(net, tally, node))
    return (tuple(tally.load), walks)


def price(net, lasts, load, task):
    """The number of runs that the walks strike."""
    _, walks = lowered(net, lasts, load, task)
    return sum([len(walk) for walk in walks])


def leaves(net, lasts, load, node):
    """The load that is left if all runs at a node are struck, and the strikes that this takes elsewhere."""
    _check_at(net, lasts, load, node)
    check_sound(net, lasts)
    check_possible(State(net, load, lasts))
    bounds = without(net, load, node)
    goal = greatest_within(net, lasts, bounds)
    count = sum(bounds) - sum(goal)
    check_many(count)
    return (goal, _strikes(net, Tally(net, bounds, lasts), count))


def is_strikes(net, lasts, load, node, value):
    """Whether any value is a list of strikes for the load and the node."""
    _check_at(net, lasts, load, node)
    if not is_row(value):
        return False
    tally = Tally(net, without(net, load, node), lasts)
    for item in value:
        if not are_integers(item, 2):
            return False
        at, task = item
        if not is_index(task, len(net)) or not tally.is_often(task, at):
            return False
        tally.change(task, -1)
    return tally.is_fine()


def without(net, load, node):
    """The load without the runs of all tasks at a node."""
    return [0 if node in net.ends(task) else left for task, left in enumerate(load)]


def _check_at(net, lasts, load, node):
    check_lasts(net, lasts)
    check_load(net, load)
    check_node(net, node)


def _walk(net, tally, node):
    """Strikes runs of tasks that are too often, from node to node; the tuples (node, task) of these runs."""
    walk = []
    while node is not None:
        task = tally.often_at(node)
        if task is None:
            break
        tally.change(task, -1)
        walk.append((node, task))
        node = net.far(task, node)
    return walk


def _strikes(net, tally, count):
    """So many strikes, as many as it takes until no task is too often."""
    found = []
    while len(found) < count:
        for node in range(net.nodes):
            task = tally.often_at(node)
            if task is not None:
                tally.change(task, -1)
                found.append((node, task))
    return found
