"""Heads: how often a task of a plain net can be left, told from the trees that hang on it."""

from otherfirst.errors import InvalidNumber, NotPlain
from otherfirst.kinds import is_count
from otherfirst.lasts import check_sound
from otherfirst.nets import check_lasts
from otherfirst.trees import toward


def heads(net, lasts, task, node):
    """The number of nodes behind a task that do not have the first task on their way to it as their last.

    It is None if they are no tree.
    """
    check_lasts(net, lasts)
    check_plain(net)
    net.check_end(task, node)
    return _heads(net, lasts, task, node)


def tops(net, lasts):
    """For each task the lesser of the heads at its ends, or None if both are None."""
    _check_sound_plain(net, lasts)
    return _tops(net, lasts)


def capped(net, lasts, number):
    """The greatest load that can be done and has no task more often than that."""
    check_lasts(net, lasts)
    check_plain(net)
    if not is_count(number):
        raise InvalidNumber(number)
    check_sound(net, lasts)
    return tuple([number if top is None else min(number, top) for top in _tops(net, lasts)])


def core(net):
    """The nodes that are left if those at one task or none are taken away again and again, ascending."""
    check_plain(net)
    nodes = list(range(net.nodes))
    before = []
    while nodes != before:
        before = nodes
        tasks = [task for task in range(len(net)) if all([end in before for end in net.ends(task)])]
        nodes = [node for node in before if len([1 for task in tasks if node in net.ends(task)]) > 1]
    return nodes


def off_core(net, lasts):
    """The sum of all tops."""
    return sum([top for top in tops(net, lasts) if top is not None])


def check_plain(net):
    """Raises an error unless all tasks are shared and minded at both ends."""
    for task, ends in enumerate(net.tasks):
        if len(ends) == 1 or not all([minds for _, minds in ends]):
            raise NotPlain(task)


def _check_sound_plain(net, lasts):
    check_lasts(net, lasts)
    check_plain(net)
    check_sound(net, lasts)


def _heads(net, lasts, task, node):
    first = toward(net, node, task)
    within = [other for other in range(len(net)) if all([end in first for end in net.ends(other)])]
    # If the other end of the task is among these nodes, so is the task, as one too many.
    if len(within) != len(first) - 1:
        return None
    return len([at for at in first if lasts[at] != first[at]])


def _tops(net, lasts):
    pairs = [[_heads(net, lasts, task, node) for node in net.ends(task)] for task in range(len(net))]
    return tuple([min([number for number in pair if number is not None], default=None) for pair in pairs])
