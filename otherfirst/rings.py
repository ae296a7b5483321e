"""Rings: nodes that bar, each for the next one, all that is left there."""

from otherfirst.cycles import cycles
from otherfirst.kinds import are_integers, is_row
from otherfirst.runs import bars


def rings(state):
    """All rings of a state that begin with their least node, ascending."""
    ways = cycles([_ahead(state, node) for node in range(state.net.nodes)])
    return [[(node, state.lasts[node]) for node in way] for way in ways if _is_closed(state, way)]


def is_ring(state, value):
    """Whether any value is a ring of the state; it may begin with any of its nodes."""
    if not is_row(value) or not all([are_integers(item, 2) for item in value]):
        return False
    if len(value) == 0:
        return False
    first = value.index(min(value))
    turned = list(value[first:]) + list(value[:first])
    return turned in rings(state)


def _ahead(state, node):
    """The node that a ring would have behind this one, or None."""
    last = state.lasts[node]
    if last is None or state.load[last] == 0 or node not in bars(state, last):
        return None
    return state.net.far(last, node)


def _is_closed(state, way):
    """Whether the lasts of these nodes differ, are left equally often and are all that is left there."""
    tasks = sorted(set([state.lasts[node] for node in way]))
    if len(tasks) != len(way) or len(set([state.load[task] for task in tasks])) != 1:
        return False
    others = [task for node in way for task in state.net.at(node) if task not in tasks]
    return all([state.load[task] == 0 for task in others])
