"""Gangs: nets whose tasks may have more than two ends."""

from otherfirst.errors import InvalidNodes, InvalidTasks
from otherfirst.kinds import is_from_to
from otherfirst.nets import are_tasks, check_lasts, check_load, marks_of
from otherfirst.runs import legal
from otherfirst.standings import find_schedule, is_fence
from otherfirst.states import State, too_often

MOST_NODES = 8
MOST_TASKS = 12
MOST_ENDS = 8


class Gang:
    """Nodes and tasks, in a state in the place of a net. A gang is never changed."""

    def __init__(self, nodes, tasks):
        if not is_from_to(nodes, 1, MOST_NODES):
            raise InvalidNodes(nodes)
        if not are_tasks(nodes, tasks, MOST_TASKS, MOST_ENDS):
            raise InvalidTasks(tasks)
        self.nodes = nodes
        self.tasks = tuple(tasks)

    def __len__(self):
        return len(self.tasks)

    def __eq__(self, other):
        return isinstance(other, Gang) and self.nodes == other.nodes and self.tasks == other.tasks

    def ends(self, task):
        """The nodes that a task of the gang is at, ascending."""
        return tuple([node for node, _ in self.tasks[task]])

    def marks(self, node):
        """A tuple (task, minds) for each task at a node of the gang, ascending."""
        return marks_of(self.tasks, node)


def gang_often(gang, load, lasts):
    """A tuple (node, task) for each end at which its task is too often, ascending."""
    _check(gang, load, lasts)
    return too_often(State(gang, load, lasts))


def gang_moves(gang, load, lasts):
    """The tasks that can be run, ascending."""
    _check(gang, load, lasts)
    return legal(State(gang, load, lasts))


def gang_schedule(gang, load, lasts):
    """A complete schedule."""
    _check(gang, load, lasts)
    return find_schedule(gang, load, lasts, lambda left, ran: legal(State(gang, left, ran)))


def is_gang_fence(gang, load, lasts, value):
    """Whether any value is a fence of a load and lasts."""
    _check(gang, load, lasts)
    return is_fence(gang, load, lasts, value, lambda left, ran: legal(State(gang, left, ran)))


def _check(gang, load, lasts):
    check_load(gang, load)
    check_lasts(gang, lasts)
