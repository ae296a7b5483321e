"""Rounds: tasks of a tree that are run at one time, and the longest days in as few rounds as can be."""

from otherfirst.days import lasts_behind_all
from otherfirst.gathers import check_tree, longest_day
from otherfirst.heads import tops
from otherfirst.kinds import is_ascending, is_index, is_row
from otherfirst.local import count_in


def is_rounds(net, value):
    """Whether any value is a list of rounds that can be run, one behind the other, from fresh lasts."""
    check_tree(net)
    if not is_row(value) or not all([_is_round(net, item) for item in value]):
        return False
    tasks = [task for item in value for task in item]
    return lasts_behind_all(net, _fresh(net), tasks) is not None


def longest_rounds(net):
    """As many tasks as can be run, in rounds that are one fewer than there are nodes."""
    day = longest_day(net, _fresh(net))
    rounds = [[] for _ in range(net.nodes - 1)]
    due = [0] * net.nodes
    for task in day:
        # In a longest day every other run of each node but the middle is of one task, so no run waits too long.
        at = max([due[node] for node in net.ends(task)])
        rounds[at].append(task)
        for node in net.ends(task):
            due[node] = at + 1
    return [sorted(tasks) for tasks in rounds]


def count_longest(net):
    """The number of the stories of all longest days."""
    check_tree(net)
    # All longest days have the same load, and any orders of the nodes fit together.
    load = tops(net, _fresh(net))
    number = 1
    for node in range(net.nodes):
        number *= count_in([(task, True, load[task]) for task in net.at(node)], None)
    return number


def _fresh(net):
    return (None,) * net.nodes


def _is_round(net, value):
    if not is_row(value) or len(value) == 0 or not all([is_index(task, len(net)) for task in value]):
        return False
    nodes = [node for task in value for node in net.ends(task)]
    return is_ascending(value) and len(set(nodes)) == len(nodes)
