"""Exchanges: the stations of a state, and the letters under way between them."""

from otherfirst.checks import check_many, check_node, check_task
from otherfirst.decide import check_doable
from otherfirst.errors import InvalidIndex
from otherfirst.kinds import is_index
from otherfirst.states import State
from otherfirst.stations import station_of


class Exchange:
    """The stations of a state that work together by letters, which may be lost, doubled or late."""

    def __init__(self, state):
        check_doable(state)
        self._net = state.net
        self._stations = [station_of(state, node) for node in range(state.net.nodes)]
        self._letters = []
        self._history = []
        # How much of the log of each station is in the history, or was heard, already.
        self._noted = [0] * state.net.nodes
        # For each node, the task of the decided run of which its station has not heard.
        self._unheard = [None] * state.net.nodes

    def letters(self):
        """The letters under way, those sent or doubled earlier first."""
        return list(self._letters)

    def deliver(self, at):
        """Takes a letter away and lets the station to which it goes take it."""
        self._check_index(at)
        letter = self._letters.pop(at)
        node = letter[4]
        self._note(node, self._stations[node].take(letter))

    def lose(self, at):
        self._check_index(at)
        del self._letters[at]

    def double(self, at):
        self._check_index(at)
        self._letters.append(self._letters[at])

    def tick(self, node):
        check_node(self._net, node)
        self._note(node, self._stations[node].tick())

    def fall(self, node):
        check_node(self._net, node)
        self._stations[node].fall()

    def forget(self, node):
        check_node(self._net, node)
        self._stations[node].forget()
        # A decided run of which the station has not heard will be its last all the same.
        if self._unheard[node] is None:
            self._history.append(("forget", node))

    def order(self, task):
        """Orders one more of the task at the station of its only or greater end."""
        check_task(self._net, task)
        self._asking(task).order(task)

    def history(self):
        """All runs and mores that were decided, and the forgettings between them, in order."""
        return list(self._history)

    def present(self):
        """The state that the history leads to."""
        load = [self._asking(task).left(task) for task in range(len(self._net))]
        lasts = [self._last(node) for node in range(self._net.nodes)]
        return State(self._net, load, lasts)

    def knows(self, node):
        check_node(self._net, node)
        return self._stations[node].knows()

    def log(self, node):
        check_node(self._net, node)
        return self._stations[node].log()

    def wanted(self):
        """For each task, what is wanted of it at the station of its only or greater end."""
        return [self._asking(task).wanted(task) for task in range(len(self._net))]

    def settle(self):
        """Makes passes until two of them, one behind the other, decide nothing; their number."""
        check_many(self.present().total() + sum(self.wanted()))
        passes = 0
        idle = 0
        while idle < 2:
            known = len(self._history)
            self._make_pass()
            passes += 1
            idle = idle + 1 if len(self._history) == known else 0
        return passes

    def _make_pass(self):
        for node in range(self._net.nodes):
            self.tick(node)
        while self._letters:
            self.deliver(0)

    def _check_index(self, at):
        if not is_index(at, len(self._letters)):
            raise InvalidIndex(at)

    def _asking(self, task):
        """The station of the only or greater end of a task."""
        return self._stations[self._net.ends(task)[-1]]

    def _last(self, node):
        unheard = self._unheard[node]
        return self._stations[node].last if unheard is None else unheard

    def _note(self, node, letters):
        """Puts letters behind those under way, and notes what their sender made."""
        self._letters.extend(letters)
        made = self._stations[node].log()
        for sort, task in made[self._noted[node]:]:
            self._note_made(node, sort, task)
        self._noted[node] = len(made)

    def _note_made(self, node, sort, task):
        ends = self._net.ends(task)
        if node == ends[-1]:
            self._history.append((sort, task))
            if sort == "run" and len(ends) == 2:
                self._unheard[ends[0]] = task
        elif sort == "run":
            self._unheard[node] = None
