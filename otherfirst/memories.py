"""Memories: what the lasts of a state keep from being done, and what is won if they are forgotten."""

from otherfirst.decide import check_possible
from otherfirst.errors import InvalidGroup, InvalidRests
from otherfirst.kinds import is_ascending, is_count, is_index, is_row, is_tuple_of
from otherfirst.lasts import check_sound
from otherfirst.nets import check_lasts, is_load
from otherfirst.rings import rings
from otherfirst.states import State, slacks, too_often, widened


def rested(state, rests):
    """The state with an own task for each node, which it does not mind, left as often as the rests tell."""
    nodes = state.net.nodes
    if not _is_rests(nodes, rests):
        raise InvalidRests(rests)
    return widened(state, [((node, False),) for node in range(nodes)], rests)


def parting_load(net, lasts, other):
    """A load and rests that can be done from just one of two lasts, or None if there are none."""
    check_lasts(net, lasts)
    check_lasts(net, other)
    check_sound(net, lasts)
    check_sound(net, other)
    for node in range(net.nodes):
        one = _minded_last(net, lasts, node)
        two = _minded_last(net, other, node)
        if one != two:
            return _one_run(net, node, two if one is None else one)
    return None


def is_parting_load(net, lasts, other, value):
    """Whether any value is a load and rests that can be done from just one of two lasts."""
    check_lasts(net, lasts)
    check_lasts(net, other)
    if not is_tuple_of(value, 2):
        return False
    load, rests = value
    if not is_load(net, load) or not _is_rests(net.nodes, rests):
        return False
    return _is_done_with(State(net, load, lasts), rests) != _is_done_with(State(net, load, other), rests)


def forgotten(state, nodes):
    """The state in which these nodes have no last."""
    if not _is_group(state.net, nodes):
        raise InvalidGroup(nodes)
    lasts = [None if node in nodes else last for node, last in enumerate(state.lasts)]
    return State(state.net, state.load, lasts)


def to_forget(state):
    """The nodes at which a task is too often, and the rings: who has to forget so that the state can be done."""
    check_possible(State(state.net, state.load))
    return ([node for node, _ in too_often(state)], rings(state))


def _is_rests(nodes, value):
    return is_row(value) and len(value) == nodes and all([is_count(item) for item in value])


def _is_group(net, value):
    return is_row(value) and all([is_index(node, net.nodes) for node in value]) and is_ascending(value)


def _minded_last(net, lasts, node):
    last = lasts[node]
    return last if last is not None and net.minds(last, node) else None


def _one_run(net, node, task):
    """The task alone, once, and a rest at its other end, so that it can be too often at the node alone."""
    far = net.far(task, node)
    load = tuple([int(other == task) for other in range(len(net))])
    return (load, tuple([int(other == far) for other in range(net.nodes)]))


def _is_done_with(state, rests):
    """Whether the state with these rests can be done; the wider net might have too many tasks to be one."""
    if not all([number + rests[node] >= 0 for node, _, number in slacks(state)]):
        return False
    return all([any([rests[node] > 0 for node, _ in ring]) for ring in rings(state)])
