"""Stations: each does the part of one node and knows nothing else of the net."""

from otherfirst.checks import check_node
from otherfirst.errors import InvalidLast, InvalidLetter, InvalidNumber, InvalidRows, InvalidTask, NotAsking
from otherfirst.kinds import MOST_NODES, MOST_TASKS, is_ascending, is_count, is_index, is_integer, is_row, is_tuple_of
from otherfirst.local import addable_in, open_in


class Station:
    """The counts of one node, its last, and the offers that it makes and agrees to."""

    def __init__(self, number, rows, *, last=None):
        if not is_index(number, MOST_NODES):
            raise InvalidNumber(number)
        if not _is_rows(number, rows):
            raise InvalidRows(rows)
        if last is not None and not (is_integer(last) and last in [row[0] for row in rows]):
            raise InvalidLast(last)
        self.number = number
        self.last = last
        self.held = None
        self._tasks = [row[0] for row in rows]
        self._far = {row[0]: row[1] for row in rows}
        self._minds = {row[0]: row[2] for row in rows}
        self._left = {row[0]: row[3] for row in rows}
        self._wanted = {row[0]: 0 for row in rows}
        self._own = [row[0] for row in rows if row[1] is None]
        self._asked = [row[0] for row in rows if row[1] is not None and row[1] < number]
        self._present = {task: 1 for task in self._asked}
        self._marked = {task: False for task in self._asked}
        # How the offer ahead of the present one went: "done" or "off".
        self._went = {task: None for task in self._asked}
        # An offer that waits is a tuple (sort, number).
        self._waiting = {}
        self._settled = {row[0]: 0 for row in rows if row[1] is not None and row[1] > number}
        self._log = []
        self._decided = []

    def left(self, task):
        self._check_task(task)
        return self._left[task]

    def wanted(self, task):
        self._check_task(task)
        return self._wanted[task]

    def open_tasks(self):
        """The tasks that the station leaves open, ascending."""
        return open_in(self._rows(), self.last)

    def addable(self):
        """The tasks of which the station can have one more, ascending."""
        return addable_in(self._rows(), self.last)

    def order(self, task):
        """One more of the task is wanted."""
        self._check_task(task)
        if task in self._settled:
            raise NotAsking(task)
        self._wanted[task] += 1

    def take(self, letter):
        """Takes a letter; the letters that are sent then, in order."""
        if not is_letter(self, letter):
            raise InvalidLetter(letter)
        kind, sort, task, number, _ = letter
        if kind == "ask":
            return self._take_ask(sort, task, number)
        if kind == "yes":
            return self._take_yes(sort, task, number)
        return self._take_end(kind, task, number)

    def tick(self):
        """Does what can be done without a letter; the letters that are sent then, in order."""
        if self.held is not None:
            return [self._yes()]
        self._more_of_own()
        self._run_own()
        self._unmark()
        return self._speak()

    def fall(self):
        """All marks and all waiting offers are lost."""
        self._unmark()
        self._waiting.clear()

    def forget(self):
        self.last = None

    def log(self):
        """All runs and mores that the station made, in order."""
        return list(self._log)

    def decided(self):
        """Those that it made for an own task or on a "yes", in order."""
        return list(self._decided)

    def knows(self):
        """Its last, the offer that it holds, and how often each task is left and wanted."""
        counts = [(task, self._left[task], self._wanted[task]) for task in self._tasks]
        return (self.last, self.held, tuple(counts))

    def gets(self, kind, task):
        """Whether letters of a kind about a task go to this station."""
        if not is_integer(task):
            return False
        if kind == "yes":
            return task in self._present
        return kind in ("ask", "done", "off") and task in self._settled

    def _check_task(self, task):
        if not is_integer(task) or task not in self._tasks:
            raise InvalidTask(task)

    def _rows(self):
        return [(task, self._minds[task], self._left[task]) for task in self._tasks]

    def _letter(self, kind, sort, task, number):
        return (kind, sort, task, number, self._far[task])

    def _yes(self):
        sort, task, number = self.held
        return self._letter("yes", sort, task, number)

    def _unmark(self):
        for task in self._asked:
            self._marked[task] = False

    def _make(self, sort, task):
        if sort == "run":
            self._left[task] -= 1
            self.last = task
        else:
            self._left[task] += 1
        self._log.append((sort, task))

    def _decide(self, sort, task):
        self._make(sort, task)
        if sort == "more":
            self._wanted[task] -= 1
        self._decided.append((sort, task))

    def _may_add(self, task):
        return self._wanted[task] > 0 and task in self.addable()

    def _more_of_own(self):
        tasks = [task for task in self._own if self._may_add(task)]
        if tasks:
            self._decide("more", tasks[0])

    def _run_own(self):
        tasks = [task for task in self.open_tasks() if task in self._own]
        if tasks:
            self._decide("run", tasks[0])

    def _speak(self):
        """Agrees to a waiting offer, or else asks."""
        if self.held is not None:
            return []
        task = self._chosen()
        if task is None:
            return self._ask()
        sort, number = self._waiting.pop(task)
        self.held = (sort, task, number)
        return [self._yes()]

    def _chosen(self):
        """The task of the waiting offer that the station agrees to, or None."""
        takes = {"run": self.open_tasks(), "more": self.addable()}
        willing = [task for task in self._waiting if task in takes[self._waiting[task][0]]]
        if willing == []:
            return None
        farthest = max([self._far[task] for task in willing])
        return min([task for task in willing if self._far[task] == farthest])

    def _ask(self):
        letters = []
        opened = self.open_tasks()
        for task in self._asked:
            if not self._marked[task] and (task in opened or self._may_add(task)):
                sort = "run" if task in opened else "more"
                letters.append(self._letter("ask", sort, task, self._present[task]))
                self._marked[task] = True
        return letters

    def _take_ask(self, sort, task, number):
        if number <= self._settled[task]:
            return []
        if self.held is not None and self.held[1:] == (task, number):
            return [self._yes()]
        self._waiting[task] = (sort, number)
        return self._speak()

    def _take_yes(self, sort, task, number):
        if number == self._present[task] - 1:
            return [self._letter(self._went[task], sort, task, number)]
        if number != self._present[task]:
            return []
        went = "done" if self._stands_by(sort, task) else "off"
        if went == "done":
            self._decide(sort, task)
        self._went[task] = went
        self._present[task] += 1
        self._marked[task] = False
        return [self._letter(went, sort, task, number)] + self._speak()

    def _stands_by(self, sort, task):
        """Whether an offer that the other end agrees to is still wanted here."""
        if self.held is not None:
            return False
        return task in self.open_tasks() if sort == "run" else self._may_add(task)

    def _take_end(self, kind, task, number):
        if self.held is None or self.held[1:] != (task, number):
            return []
        sort = self.held[0]
        self.held = None
        if kind == "done":
            self._make(sort, task)
        self._settled[task] = number
        if task in self._waiting and self._waiting[task][1] <= number:
            del self._waiting[task]
        return self._speak()


def station_of(state, node):
    """A new station for a node of a state."""
    net = state.net
    check_node(net, node)
    rows = [(task, net.far(task, node), minds, state.load[task]) for task, minds in net.marks(node)]
    return Station(node, rows, last=state.lasts[node])


def is_letter(station, value):
    """Whether any value is a letter that the station may get."""
    if not is_tuple_of(value, 5):
        return False
    kind, sort, task, number, to = value
    if not is_integer(to) or to != station.number or sort not in ("run", "more"):
        return False
    return is_count(number) and number > 0 and station.gets(kind, task)


def _is_rows(number, value):
    if not is_row(value) or not all([_is_row_of(number, row) for row in value]):
        return False
    return is_ascending([row[0] for row in value])


def _is_row_of(number, value):
    if not is_tuple_of(value, 4):
        return False
    task, far, minds, left = value
    if far is not None and (not is_index(far, MOST_NODES) or far == number):
        return False
    return is_index(task, MOST_TASKS) and isinstance(minds, bool) and is_count(left)
