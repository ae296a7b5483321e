"""Profiles: what each node of a state needs from others, and what it has for them."""

from otherfirst.checks import check_node
from otherfirst.errors import InvalidProfile
from otherfirst.kinds import MOST_NODES, is_count, is_row, is_tuple_of
from otherfirst.local import slacks_in, work_in
from otherfirst.states import rows_of


def need(state, node):
    """The greatest number by which a slack at the node is below 0."""
    check_node(state.net, node)
    return _need_of(state, node)


def profile(state):
    """A tuple (need, work) for each node."""
    return tuple([(_need_of(state, node), work_in(rows_of(state, node))) for node in range(state.net.nodes)])


def is_profile(value, nodes):
    """Whether any value is a profile of so many nodes."""
    return is_row(value) and len(value) == nodes and all([_is_share(item) for item in value])


def fits(first, second):
    """Whether each of two profiles needs at most what the other has, at each node."""
    _check_profiles(first, second)
    return all([one[0] <= other[1] and other[0] <= one[1] for one, other in zip(first, second)])


def together(first, second):
    """The profile of two states in one."""
    _check_profiles(first, second)
    return tuple([_joint(one, other) for one, other in zip(first, second)])


def _need_of(state, node):
    return max([0] + [-number for _, number in slacks_in(rows_of(state, node), state.lasts[node])])


def _is_share(value):
    return is_tuple_of(value, 2) and all([is_count(item) for item in value]) and value[0] <= value[1]


def _check_profiles(first, second):
    if not is_row(first) or not 1 <= len(first) <= MOST_NODES or not is_profile(first, len(first)):
        raise InvalidProfile(first)
    if not is_profile(second, len(first)):
        raise InvalidProfile(second)


def _joint(one, other):
    """What a node needs and has together, if it needs and has both."""
    return (max(0, one[0] - other[1], other[0] - one[1]), one[1] + other[1])
