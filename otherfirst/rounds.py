"""Rounds: tasks of a tree that are run at one time, and the longest days in as few rounds as can be."""

from math import comb

from otherfirst.days import lasts_behind_all
from otherfirst.gathers import check_tree, longest_day
from otherfirst.heads import tops
from otherfirst.kinds import is_ascending, is_index, is_row


def is_rounds(net, value):
    """Whether any value is a list of rounds that can be run, one behind the other, from fresh lasts."""
    check_tree(net)
    if not is_row(value) or not all([_is_round(net, item) for item in value]):
        return False
    tasks = [task for item in value for task in item]
    return lasts_behind_all(net, _fresh(net), tasks) is not None


def longest_rounds(net):
    """As many tasks as can be run, in rounds that are one fewer than there are nodes."""
    day = longest_day(net, _fresh(net))
    rounds = [[] for _ in range(net.nodes - 1)]
    due = [0] * net.nodes
    for task in day:
        # In a longest day every other run of each node but the middle is of one task, so no run waits too long.
        at = max([due[node] for node in net.ends(task)])
        rounds[at].append(task)
        for node in net.ends(task):
            due[node] = at + 1
    return [sorted(tasks) for tasks in rounds]


def count_longest(net):
    """The number of the stories of all longest days."""
    check_tree(net)
    # All longest days have the same load, and any orders of the nodes fit together.
    load = tops(net, _fresh(net))
    number = 1
    for node in range(net.nodes):
        number *= _count_orders([load[task] for task in net.at(node)])
    return number


def _fresh(net):
    return (None,) * net.nodes


def _is_round(net, value):
    if not is_row(value) or len(value) == 0 or not all([is_index(task, len(net)) for task in value]):
        return False
    nodes = [node for task in value for node in net.ends(task)]
    return is_ascending(value) and len(set(nodes)) == len(nodes)


def _count_orders(counts):
    """The number of orders of so many runs of each task in which no task stands twice running."""
    # The runs of each task are joined to blocks in all ways, and the blocks put in any order. What has a joint is
    # taken away again, as each joint changes the sign. At each index stands the sum for so many blocks.
    sums = [1]
    for count in counts:
        longer = [0] * (len(sums) + count)
        for others, number in enumerate(sums):
            for blocks in range(1, count + 1):
                sign = 1 if (count - blocks) % 2 == 0 else -1
                longer[others + blocks] += sign * number * comb(count - 1, blocks - 1) * comb(others + blocks, blocks)
        sums = longer
    return sum(sums)
