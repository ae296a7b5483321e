"""Desks: a load that can always be done, kept through deeds that can be taken back."""

from otherfirst.checks import check_node, check_task
from otherfirst.errors import InvalidDeeds, InvalidNumber, NothingToRedo, NothingToUndo, Spoils
from otherfirst.greatest import greatest
from otherfirst.kinds import MOST_RUNS, is_from_to, is_row
from otherfirst.lasts import check_sound
from otherfirst.leasts import least_schedule
from otherfirst.runs import run, safe
from otherfirst.states import State, urgent
from otherfirst.tallies import Tally
from otherfirst.walks import lowered, without

# How many values follow the word of each sort of deed.
VALUES = {"wish": 2, "run": 1, "strike": 1, "leave": 1, "forget": 1}


class Desk:
    """A load, lasts and wishes, and the deeds that led to them."""

    def __init__(self, net, lasts=None):
        if lasts is not None:
            check_sound(net, lasts)
        self._net = net
        # The lines of the deeds, and for each number of deeds done what there is behind them: load, lasts, wishes.
        self._lines = []
        self._known = [((0,) * len(net), (None,) * net.nodes if lasts is None else tuple(lasts), (0,) * len(net))]
        # The deeds from here on were taken back.
        self._count = 0

    def __eq__(self, other):
        if not isinstance(other, Desk):
            return False
        return self._net == other._net and self._now() == other._now() and self.journal() == other.journal()

    def state(self):
        """The present state."""
        return State(self._net, self.load(), self.lasts())

    def load(self):
        return self._now()[0]

    def lasts(self):
        return self._now()[1]

    def wishes(self):
        """For each task how many more of it are wished for and not taken on yet."""
        return self._now()[2]

    def wish(self, task, number=1):
        """So many more of the task are wished for; what was done, in order."""
        check_task(self._net, task)
        if not is_from_to(number, 1, MOST_RUNS):
            raise InvalidNumber(number)
        load, lasts, wishes = self._now()
        wishes = _with(wishes, [task], wishes[task] + number)
        return self._do(f"wish {task} {number}", load, lasts, wishes, [])

    def run(self, task):
        """The task is run, unless that spoils the rest; what was done, in order."""
        state = self.state()
        reached = run(state, task)
        for node in self._net.ends(task):
            due = urgent(state, node)
            if due is not None and due != task:
                raise Spoils(node, due)
        return self._do(f"run {task}", reached.load, reached.lasts, self.wishes(), [("run", task)])

    def strike(self, task):
        """A run of the task is struck, and all that falls with it; what was done, in order."""
        load, lasts, wishes = self._now()
        lesser, walks = lowered(self._net, lasts, load, task)
        told = [("strike", task)] + [("strike", other) for walk in walks for _, other in walk]
        return self._do(f"strike {task}", lesser, lasts, _with(wishes, [task], 0), told)

    def leave(self, node):
        """Nothing of the tasks at the node is left; what was done, in order."""
        check_node(self._net, node)
        load, lasts, wishes = self._now()
        lesser = greatest(self._net, lasts, without(self._net, load, node))
        told = [("strike", task) for task, left in enumerate(load) for _ in range(left - lesser[task])]
        return self._do(f"leave {node}", lesser, lasts, _with(wishes, self._net.at(node), 0), told)

    def forget(self, node):
        """The node has no last; what was done, in order."""
        check_node(self._net, node)
        load, lasts, wishes = self._now()
        return self._do(f"forget {node}", load, _with(lasts, [node], None), wishes, [("forget", node)])

    def undo(self):
        """Takes back the last deed that counts."""
        if self._count == 0:
            raise NothingToUndo()
        self._count -= 1

    def redo(self):
        """Does again the deed that was taken back last."""
        if self._count == len(self._lines):
            raise NothingToRedo()
        self._count += 1

    def tried(self, deeds):
        """Another desk like this one, behind some further deeds."""
        if not is_row(deeds) or not all([_is_deed(deed) for deed in deeds]):
            raise InvalidDeeds(deeds)
        desk = Desk(self._net)
        desk._lines = list(self._lines)
        desk._known = list(self._known)
        desk._count = self._count
        for deed in deeds:
            desk._repeat(deed)
        return desk

    def journal(self):
        """The lines of the deeds that count, in order."""
        return self._lines[:self._count]

    def forecast(self):
        """The least schedule of the present state."""
        return least_schedule(self.state())

    def next_runs(self):
        """The tasks that can be run now without spoiling the rest, ascending."""
        return safe(self.state())

    def greatest_within(self, bounds):
        """The greatest load within the bounds with the present lasts."""
        return greatest(self._net, self.lasts(), bounds)

    def _now(self):
        return self._known[self._count]

    def _repeat(self, deed):
        """Does what a tuple of a word and its values tells."""
        word = deed[0]
        if word == "wish":
            self.wish(deed[1], deed[2])
        elif word == "run":
            self.run(deed[1])
        elif word == "strike":
            self.strike(deed[1])
        elif word == "leave":
            self.leave(deed[1])
        else:
            self.forget(deed[1])

    def _do(self, line, load, lasts, wishes, told):
        """Notes a deed and takes on what is wished for, as long as the counts stay fine; all that was done."""
        tally = Tally(self._net, load, lasts)
        wanted = list(wishes)
        taken = []
        task = _least_due(tally, wanted)
        while task is not None:
            tally.change(task, 1)
            wanted[task] -= 1
            taken.append(("more", task))
            task = _least_due(tally, wanted)
        del self._lines[self._count:]
        del self._known[self._count + 1:]
        self._lines.append(line)
        self._known.append((tuple(tally.load), tuple(lasts), tuple(wanted)))
        self._count += 1
        return told + taken


def _is_deed(value):
    if not isinstance(value, tuple) or len(value) == 0 or not isinstance(value[0], str):
        return False
    return VALUES.get(value[0]) == len(value) - 1


def _least_due(tally, wanted):
    """The least task that is wanted and can be taken on, or None."""
    for task, number in enumerate(wanted):
        if number > 0 and tally.can_grow(task):
            return task
    return None


def _with(row, places, item):
    """The row with another item at some places."""
    return tuple([item if at in places else old for at, old in enumerate(row)])
