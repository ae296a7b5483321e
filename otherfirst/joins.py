"""Joins: states on the same nodes in one, states that tell two others apart, and two nodes in one."""

from otherfirst.checks import check_many, check_node
from otherfirst.errors import InvalidOther, SameNode, SharedTask
from otherfirst.kinds import MOST_TASKS
from otherfirst.lasts import check_sound
from otherfirst.nets import Net
from otherfirst.profiles import fits, profile
from otherfirst.states import State, widened


def joined(one, other):
    """The state in which both nets have their nodes in common, with the lasts of the first."""
    if not _is_on(other, one.net.nodes) or not _is_fresh(other):
        raise InvalidOther(other)
    return widened(one, other.net.tasks, other.load)


def parting(one, other):
    """A state of own tasks whose profile fits that of just one of two states, or None if there is none."""
    _check_pair(one, other)
    first = profile(one)
    second = profile(other)
    if first == second:
        return None
    _check_room(one, other)
    found = _fitting_second(first, second)
    return _fitting_second(second, first) if found is None else found


def never_worse(one, other):
    """A state of own tasks whose profile fits that of the other state alone, or None if there is none."""
    _check_pair(one, other)
    found = _fitting_second(profile(one), profile(other))
    if found is not None:
        _check_room(one, other)
    return found


def is_parting(one, other, value):
    """Whether any value is a state with fresh lasts whose profile fits that of just one of two states."""
    _check_pair(one, other)
    if not _is_on(value, one.net.nodes) or not _is_fresh(value):
        return False
    told = profile(value)
    return fits(told, profile(one)) != fits(told, profile(other))


def merged(state, node, other):
    """The state in which two nodes are made one, the first of them."""
    net = state.net
    check_node(net, node)
    check_node(net, other)
    if node == other:
        raise SameNode(node)
    for task in net.at(node):
        if other in net.ends(task):
            raise SharedTask(task)
    places = [_place(end, node, other) for end in range(net.nodes)]
    tasks = [tuple(sorted([(places[end], minds) for end, minds in marks])) for marks in net.tasks]
    lasts = list(state.lasts)
    if lasts[node] is None:
        lasts[node] = lasts[other]
    del lasts[other]
    return State(Net(net.nodes - 1, tasks), state.load, lasts)


def _is_on(value, nodes):
    return isinstance(value, State) and value.net.nodes == nodes


def _is_fresh(state):
    return all([last is None for last in state.lasts])


def _check_pair(one, other):
    if not _is_on(other, one.net.nodes):
        raise InvalidOther(other)
    check_sound(one.net, one.lasts)
    check_sound(other.net, other.lasts)


def _check_room(one, other):
    """Raises an error unless each of the states has room for an own task for each node and one more."""
    check_many(max(len(one.net), len(other.net)) + one.net.nodes + 1, MOST_TASKS)


def _fitting_second(first, second):
    """A state of own tasks whose profile fits the second of two profiles and not the first one, or None."""
    nodes = len(first)
    for node in range(nodes):
        # What the second one needs just fits it; that is too little if the first one needs more somewhere.
        tasks = [((at, False),) for at in range(nodes)]
        load = [needs for needs, _ in second]
        if first[node][0] > second[node][0]:
            return State(Net(nodes, tasks), load)
        if first[node][1] < second[node][1]:
            # A minded task needs one less than it is left.
            tasks[node] = ((node, True),)
            load[node] = second[node][1] + 1
            return State(Net(nodes, tasks), load)
    return None


def _place(end, node, other):
    """The number that a node has when the other one is made one with the first."""
    place = node if end == other else end
    return place - 1 if place > other else place
