"""Nets: nodes, and tasks with one or two of them as ends."""

from otherfirst.checks import check_node, check_task
from otherfirst.errors import InvalidLasts, InvalidLine, InvalidLoad, InvalidNodes, InvalidTasks, NotAnEnd
from otherfirst.kinds import MOST_NODES, MOST_TASKS, is_ascending, is_count, is_from_to, is_index, is_row, is_tuple_of
from otherfirst.kinds import read_decimal

MOST_ENDS = 2


class Net:
    """Nodes and tasks. A net is never changed."""

    def __init__(self, nodes, tasks):
        if not is_from_to(nodes, 1, MOST_NODES):
            raise InvalidNodes(nodes)
        if not are_tasks(nodes, tasks, MOST_TASKS, MOST_ENDS):
            raise InvalidTasks(tasks)
        self.nodes = nodes
        self.tasks = tuple(tasks)
        self._ends = tuple([tuple([end[0] for end in task]) for task in self.tasks])
        self._marks = tuple([tuple(marks_of(self.tasks, node)) for node in range(nodes)])

    def __len__(self):
        return len(self.tasks)

    def __eq__(self, other):
        return isinstance(other, Net) and self.nodes == other.nodes and self.tasks == other.tasks

    def ends(self, task):
        """The nodes that a task is at, ascending."""
        check_task(self, task)
        return self._ends[task]

    def at(self, node):
        """The tasks at a node, ascending."""
        check_node(self, node)
        return [task for task, _ in self._marks[node]]

    def marks(self, node):
        """A tuple (task, minds) for each task at a node of the net, ascending."""
        return self._marks[node]

    def far(self, task, node):
        """The other end of a shared task, None for an own task."""
        self.check_end(task, node)
        ends = self._ends[task]
        if len(ends) == 1:
            return None
        return ends[1] if node == ends[0] else ends[0]

    def minds(self, task, node):
        self.check_end(task, node)
        return (node, True) in self.tasks[task]

    def line(self):
        words = ["".join([_end_word(end) for end in task]) for task in self.tasks]
        return " ".join([f"{self.nodes}:"] + words)

    def check_end(self, task, node):
        """Raises an error unless the task is one at the node."""
        check_task(self, task)
        check_node(self, node)
        if node not in self._ends[task]:
            raise NotAnEnd(task, node)


def is_load(net, value):
    """Whether any value is a load of the net: a count for each task."""
    if not is_row(value) or len(value) != len(net):
        return False
    return all([is_count(item) for item in value])


def is_lasts(net, value):
    """Whether any value is lasts of the net: None or a task at it for each node."""
    if not is_row(value) or len(value) != net.nodes:
        return False
    return all([_is_last(net, node, item) for node, item in enumerate(value)])


def check_load(net, load):
    if not is_load(net, load):
        raise InvalidLoad(load)


def check_lasts(net, lasts):
    if not is_lasts(net, lasts):
        raise InvalidLasts(lasts)


def read_net(line):
    """The net that has this line."""
    if not isinstance(line, str):
        raise InvalidLine(line)
    head, colon, rest = line.partition(":")
    nodes = read_decimal(head)
    blank, *words = rest.split(" ")
    if colon == "" or blank != "" or not is_from_to(nodes, 1, MOST_NODES):
        raise InvalidLine(line)
    tasks = [_read_task(word) for word in words]
    if not are_tasks(nodes, tasks, MOST_TASKS, MOST_ENDS):
        raise InvalidLine(line)
    return Net(nodes, tasks)


def are_tasks(nodes, value, most, most_ends):
    """Whether a value is a list of at most so many tasks, with at most so many ends each, on so many nodes."""
    if not is_row(value) or len(value) > most:
        return False
    return all([_is_task(nodes, task, most_ends) for task in value])


def marks_of(tasks, node):
    """A tuple (task, minds) for each of the tasks at a node, ascending."""
    return [(at, minds) for at, task in enumerate(tasks) for end, minds in task if end == node]


def _is_task(nodes, value, most_ends):
    if not isinstance(value, tuple) or not 1 <= len(value) <= most_ends:
        return False
    return all([_is_end(nodes, end) for end in value]) and is_ascending([node for node, _ in value])


def _is_end(nodes, value):
    return is_tuple_of(value, 2) and is_index(value[0], nodes) and isinstance(value[1], bool)


def _is_last(net, node, value):
    return value is None or (is_index(value, len(net)) and node in net.ends(value))


def _end_word(end):
    node, minds = end
    return f"{node}!" if minds else f"{node}?"


def _read_task(word):
    """The ends that a word writes; what is written amiss becomes no task of any net."""
    ends = []
    digits = ""
    for sign in word:
        if sign in ("!", "?"):
            ends.append((read_decimal(digits), sign == "!"))
            digits = ""
        else:
            digits = digits + sign
    return tuple(ends) if digits == "" else None
