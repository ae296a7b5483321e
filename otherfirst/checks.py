"""Checks of arguments that many points share: each raises the error of its argument."""

from otherfirst.errors import InvalidNode, InvalidSchedule, InvalidTask, NotMinded, TooMany
from otherfirst.kinds import MOST_RUNS, is_index, is_row


def check_task(net, task):
    if not is_index(task, len(net.tasks)):
        raise InvalidTask(task)


def check_node(net, node):
    if not is_index(node, net.nodes):
        raise InvalidNode(node)


def check_minded(net, task, node):
    """For a task and a node of the net; a node minds no task that is not at it."""
    if (node, True) not in net.tasks[task]:
        raise NotMinded(task, node)


def is_task_list(net, value):
    """Whether a value has the form of a schedule, whether it can be run or not."""
    if not is_row(value) or len(value) > MOST_RUNS:
        return False
    return all([is_index(task, len(net.tasks)) for task in value])


def check_schedule(net, schedule):
    if not is_task_list(net, schedule):
        raise InvalidSchedule(schedule)


def check_many(count, most=MOST_RUNS):
    if count > most:
        raise TooMany(count)
