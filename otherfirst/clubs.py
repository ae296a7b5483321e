"""Clubs: nodes that shun, behind a run with a member of a club, the whole club of it."""

from otherfirst.errors import InvalidClubs
from otherfirst.kinds import is_integer, is_row
from otherfirst.standings import find_schedule, is_fence


def club_schedule(state, clubs):
    """A complete schedule with clubs."""
    net = state.net
    _check_clubs(net, clubs)
    return find_schedule(net, state.load, state.lasts, lambda load, lasts: _moves(net, clubs, load, lasts))


def is_club_fence(state, clubs, value):
    """Whether any value is a fence of the load and the lasts of the state, with clubs."""
    net = state.net
    _check_clubs(net, clubs)
    return is_fence(net, state.load, state.lasts, value, lambda load, lasts: _moves(net, clubs, load, lasts))


def _check_clubs(net, clubs):
    if not is_row(clubs) or len(clubs) != net.nodes or not all([is_integer(club) for club in clubs]):
        raise InvalidClubs(clubs)


def _moves(net, clubs, load, lasts):
    """The tasks that can be run with clubs, ascending."""
    found = []
    for task, left in enumerate(load):
        if left > 0 and not any([_bars(net, clubs, lasts[node], task, node) for node in net.ends(task)]):
            found.append(task)
    return found


def _bars(net, clubs, last, task, node):
    """Whether a node with this last bars a task at it."""
    if last is None:
        return False
    if last == task and net.minds(task, node):
        return True
    seen = net.far(last, node)
    far = net.far(task, node)
    return seen is not None and far is not None and clubs[seen] == clubs[far]
