"""Decisions: whether all that is left can be run, and in which order."""

from otherfirst.checks import check_many
from otherfirst.courses import run_off
from otherfirst.errors import Impossible
from otherfirst.kinds import are_integers, is_tuple_of
from otherfirst.rings import is_ring, rings
from otherfirst.runs import safe
from otherfirst.states import too_often


def can_be_done(state):
    """Whether a state has a complete schedule."""
    return defect(state) is None


def defect(state):
    """Why a state cannot be done: a task too often, or else a ring. None if it can be done."""
    often = too_often(state)
    if often:
        node, task = often[0]
        return ("often", node, task)
    closed = rings(state)
    if closed:
        return ("ring", closed[0])
    return None


def is_defect(state, value):
    """Whether any value is a task too often, or a ring, as defect tells them."""
    if is_tuple_of(value, 3):
        return value[0] == "often" and are_integers(value[1:], 2) and value[1:] in too_often(state)
    return is_tuple_of(value, 2) and value[0] == "ring" and is_ring(state, value[1])


def check_possible(state):
    """Raises an error unless the state can be done."""
    found = defect(state)
    if found is not None:
        raise Impossible(found)


def check_doable(state):
    """Raises an error unless the state can be done and its runs can be listed."""
    check_many(state.total())
    check_possible(state)


def schedule_of(state):
    """A complete schedule."""
    check_doable(state)
    return run_off(state)


def keeping(state):
    """The tasks behind whose run the state can be done, ascending."""
    return safe(state) if can_be_done(state) else []
