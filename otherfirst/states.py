"""States: a net, how often each task is left, and what each node ran last."""

from otherfirst.checks import check_many, check_minded, check_node, check_task
from otherfirst.errors import InvalidLine
from otherfirst.kinds import MOST_TASKS, read_decimal
from otherfirst.local import slacks_in, tight_in, urgent_in, work_in
from otherfirst.nets import Net, check_lasts, check_load, is_lasts, is_load


class State:
    """A net with a load and lasts. A state is never changed."""

    def __init__(self, net, load, lasts=None):
        check_load(net, load)
        if lasts is not None:
            check_lasts(net, lasts)
        self.net = net
        self.load = tuple(load)
        self.lasts = (None,) * net.nodes if lasts is None else tuple(lasts)

    def __eq__(self, other):
        if not isinstance(other, State):
            return False
        return self.net == other.net and self.load == other.load and self.lasts == other.lasts

    def total(self):
        """The number of runs left of all tasks together."""
        return sum(self.load)

    def line(self):
        counts = [str(count) for count in self.load]
        words = ["-" if last is None else str(last) for last in self.lasts]
        return " ".join(counts + ["/"] + words)


def widened(state, tasks, load):
    """The state with further tasks behind its own, left as often as a further load tells."""
    net = state.net
    check_many(len(net) + len(tasks), MOST_TASKS)
    wider = Net(net.nodes, net.tasks + tuple(tasks))
    return State(wider, state.load + tuple(load), state.lasts)


def rows_of(state, node):
    """The rows of a node as the module local asks for them."""
    return [(task, minds, state.load[task]) for task, minds in state.net.marks(node)]


def work(state, node):
    """The number of runs left of all tasks at the node together."""
    check_node(state.net, node)
    return work_in(rows_of(state, node))


def slack(state, task, node):
    """How many runs the node can still waste for a task that it minds."""
    check_task(state.net, task)
    check_node(state.net, node)
    check_minded(state.net, task, node)
    return dict(slacks_in(rows_of(state, node), state.lasts[node]))[task]


def slacks(state):
    """A tuple (node, task, slack) for each end that minds its task, ascending."""
    found = []
    for node in range(state.net.nodes):
        for task, number in slacks_in(rows_of(state, node), state.lasts[node]):
            found.append((node, task, number))
    return found


def tight(state, node):
    """The task that the node minds and whose slack there is 0, or None."""
    check_node(state.net, node)
    return tight_in(rows_of(state, node), state.lasts[node])


def urgent(state, node):
    """The task for which the node is urgent, or None."""
    check_node(state.net, node)
    return urgent_in(rows_of(state, node), state.lasts[node])


def fine(state):
    """Whether no task is too often anywhere."""
    return too_often(state) == []


def too_often(state):
    """A tuple (node, task) for each end at which its task is too often, ascending."""
    return [(node, task) for node, task, number in slacks(state) if number < 0]


def read_state(net, line):
    """The state of the net that has this line."""
    if not isinstance(line, str):
        raise InvalidLine(line)
    words = line.split(" ")
    many = len(net)
    if len(words) != many + 1 + net.nodes or words[many] != "/":
        raise InvalidLine(line)
    load = [read_decimal(word) for word in words[:many]]
    lasts = [_read_last(word) for word in words[many + 1:]]
    if not is_load(net, load) or not is_lasts(net, lasts):
        raise InvalidLine(line)
    return State(net, load, lasts)


def _read_last(word):
    """The last that a word writes; what is written amiss becomes -1, which no net has."""
    if word == "-":
        return None
    number = read_decimal(word)
    return -1 if number is None else number
