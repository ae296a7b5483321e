"""Known in part: what can be told of lasts and loads if the lasts of some nodes are known."""

from otherfirst.checks import check_node
from otherfirst.cycles import way_from
from otherfirst.errors import FalseLasts, InvalidKnown, NeverLast, NotAnEnd
from otherfirst.kinds import is_index, is_row
from otherfirst.lasts import circle_of, looks
from otherfirst.nets import check_lasts
from otherfirst.states import State, slacks


def full_lasts(net, lasts, known):
    """True lasts that agree with the known ones."""
    check_lasts(net, lasts)
    _check_known(net, known)
    sight = _sight(lasts, known)
    _check_true(net, sight, known)
    return _filled(net, sight, known)


def last_could_be(net, lasts, known, node, task):
    """True lasts that agree with the known ones and in which the task is the last of the node."""
    check_lasts(net, lasts)
    _check_known(net, known)
    check_node(net, node)
    if not is_index(task, len(net)) or node not in net.ends(task):
        raise NotAnEnd(task, node)
    sight = _sight(lasts, known)
    _check_true(net, sight, known)
    way = _bar(net, sight, known, node, task)
    if way is not None:
        raise NeverLast(way)
    return _filled_with(net, sight, known, node, task)


def fate_known(state, known):
    """True lasts that agree with the known ones and from which the load cannot be done, or None."""
    net = state.net
    _check_known(net, known)
    sight = _sight(state.lasts, known)
    _check_true(net, sight, known)
    # These are the slacks with no lasts; a task that could be the last loses one of them.
    for node, task, number in slacks(State(net, state.load)):
        if number < 0:
            return _filled(net, sight, known)
        if number == 0 and _bar(net, sight, known, node, task) is None:
            return _filled_with(net, sight, known, node, task)
    return None


def _check_known(net, known):
    if not is_row(known) or len(known) != net.nodes or not all([isinstance(item, bool) for item in known]):
        raise InvalidKnown(known)


def _sight(lasts, known):
    """The known lasts, and None for all others."""
    return [last if seen else None for last, seen in zip(lasts, known)]


def _check_true(net, sight, known):
    """Raises an error if no true lasts agree with the known ones."""
    for node, far in enumerate(looks(net, sight)):
        if far is not None and known[far] and sight[far] is None:
            raise FalseLasts(("bare", node))
    circle = circle_of(net, sight)
    if circle is not None:
        raise FalseLasts(("circle", circle))


def _filled(net, sight, known):
    """The known lasts, and for each other node a task that a node which looks at it ran with it, if there is one.

    So the node looks back at that one, and no circle comes through it.
    """
    full = list(sight)
    for node, far in enumerate(looks(net, sight)):
        if far is not None and not known[far]:
            full[far] = sight[node]
    return tuple(full)


def _filled_with(net, sight, known, node, task):
    return _filled(net, _put(sight, node, task), _put(known, node, True))


def _bar(net, sight, known, node, task):
    """The way that keeps a task from being the last of a node, or None if nothing does."""
    if known[node]:
        return None if sight[node] == task else [node]
    far = net.far(task, node)
    if far is None or not known[far] or sight[far] == task:
        return None
    if sight[far] is None:
        return [far]
    way = way_from(looks(net, _put(sight, node, task)), far)
    return way if node in way else None


def _put(row, at, item):
    return [item if index == at else old for index, old in enumerate(row)]
