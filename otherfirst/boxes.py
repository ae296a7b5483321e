"""Boxes: what can be said of all loads between two, and which ends have to be waived."""

from otherfirst.decide import can_be_done
from otherfirst.errors import InvalidEnds
from otherfirst.greatest import greatest, is_reasons, is_within, reasons
from otherfirst.kinds import are_integers, is_index, is_row, is_tuple_of
from otherfirst.lasts import all_circles, check_sound
from otherfirst.nets import Net, check_lasts, check_load, is_load
from otherfirst.rings import rings
from otherfirst.states import State, too_often
from otherfirst.taking import check_above
from otherfirst.tallies import Tally


def fate_between(net, lasts, low, high):
    """Whether all loads between two can be done, or none, or some, with what shows it."""
    _check_box(net, lasts, low, high)
    check_sound(net, lasts)
    spoiler = _spoiler(net, lasts, low, high)
    if spoiler is None:
        return ("sure",)
    told = reasons(net, lasts, high)
    for task, number, _ in told:
        if number < low[task]:
            return ("never", task, told)
    return ("open", greatest(net, lasts, high), spoiler)


def is_fate_between(net, lasts, low, high, value):
    """Whether any value is a tuple as fate_between tells it."""
    _check_box(net, lasts, low, high)
    if is_tuple_of(value, 1):
        return value[0] == "sure" and _is_sure(net, lasts, low, high)
    if not is_tuple_of(value, 3):
        return False
    word, one, other = value
    if word == "never":
        return _is_never(net, lasts, low, high, one, other)
    if word != "open" or not _is_between(net, low, high, one) or not _is_between(net, low, high, other):
        return False
    return can_be_done(State(net, one, lasts)) and not can_be_done(State(net, other, lasts))


def waived(state, ends):
    """The state in which these ends mind their tasks no more."""
    net = state.net
    if not _is_ends(net, ends):
        raise InvalidEnds(ends)
    tasks = []
    for task, marks in enumerate(net.tasks):
        tasks.append(tuple([(node, minds and (node, task) not in ends) for node, minds in marks]))
    return State(Net(net.nodes, tasks), state.load, state.lasts)


def waivers(state):
    """The ends at which a task is too often, and the rings, one end of each of which has to be waived, too."""
    return (too_often(state), rings(state))


def _check_box(net, lasts, low, high):
    check_lasts(net, lasts)
    check_load(net, low)
    check_load(net, high)
    check_above(low, high)


def _spoiler(net, lasts, low, high):
    """A load between two whose counts are not fine, or None if there is none."""
    for task in range(len(net)):
        # At most of this task and least of the others it is too often if it ever is.
        load = list(low)
        load[task] = high[task]
        tally = Tally(net, load, lasts)
        if any([tally.is_often(task, node) for node in net.ends(task)]):
            return tuple(load)
    return None


def _is_sure(net, lasts, low, high):
    if _spoiler(net, lasts, low, high) is not None:
        return False
    return not any([_can_close(net, low, circle) for circle in all_circles(net, lasts)])


def _can_close(net, low, circle):
    """Whether a circle of the lasts is a ring of some load from low on, if no load there has a task too often.

    For then, without other tasks at its nodes, the tasks of the circle are left equally often in all these loads.
    """
    tasks = [task for _, task in circle]
    others = [task for node, _ in circle for task in net.at(node) if task not in tasks]
    if any([low[task] > 0 for task in others]) or not all([net.minds(task, node) for node, task in circle]):
        return False
    return all([low[task] > 0 for task in tasks])


def _is_never(net, lasts, low, high, task, told):
    if not is_index(task, len(net)) or not is_reasons(net, lasts, high, told):
        return False
    return all([number < low[task] for other, number, _ in told if other == task])


def _is_between(net, low, high, value):
    return is_load(net, value) and is_within(low, value) and is_within(value, high)


def _is_ends(net, value):
    if not is_row(value) or not all([are_integers(item, 2) for item in value]):
        return False
    if not all([is_index(task, len(net)) and (node, True) in net.tasks[task] for node, task in value]):
        return False
    return len(set(value)) == len(value)
