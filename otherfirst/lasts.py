"""Lasts: which of them some runs can leave."""

from otherfirst.cycles import cycles
from otherfirst.errors import Circled, FalseLasts
from otherfirst.nets import check_lasts


def looks(net, lasts):
    """For each node the one that it looks at, itself behind an own task, None without a last."""
    check_lasts(net, lasts)
    return [_look(net, node, last) for node, last in enumerate(lasts)]


def all_circles(net, lasts):
    """All circles of the lasts, each from its least node on, in ascending order."""
    # Two nodes that ran one task last look at each other, too, but make no circle.
    ways = [way for way in cycles(looks(net, lasts)) if lasts[way[0]] != lasts[way[1]]]
    return [[(node, lasts[node]) for node in way] for way in ways]


def circle_of(net, lasts):
    """The circle that has the least of all nodes in circles, or None."""
    found = all_circles(net, lasts)
    return found[0] if found else None


def why_false(net, lasts):
    """A node that looks at one without a last, or else a circle, or None if the lasts are true."""
    ahead = looks(net, lasts)
    for node, far in enumerate(ahead):
        if far is not None and lasts[far] is None:
            return ("bare", node)
    circle = circle_of(net, lasts)
    return None if circle is None else ("circle", circle)


def is_true(net, lasts):
    """Whether some tasks, run one behind the other from fresh lasts, leave these lasts."""
    return why_false(net, lasts) is None


def check_true(net, lasts):
    """Raises an error unless the lasts are lasts of the net, and true."""
    reason = why_false(net, lasts)
    if reason is not None:
        raise FalseLasts(reason)


def check_sound(net, lasts):
    """Raises an error unless the lasts are lasts of the net, and sound."""
    circle = circle_of(net, lasts)
    if circle is not None:
        raise Circled(circle)


def _look(net, node, last):
    if last is None:
        return None
    far = net.far(last, node)
    return node if far is None else far
