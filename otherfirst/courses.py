"""Courses: runs from a state on, one behind the other, without a new state for each of them."""

from otherfirst.states import State


class Course:
    """What is left, and the lasts, behind some runs from a state. The state itself is not changed.

    A run changes the ends of its task alone, so what the other nodes tell is kept.
    """

    def __init__(self, state):
        net = state.net
        self._net = net
        self._load = list(state.load)
        self._lasts = list(state.lasts)
        self._minded = [[task for task, minds in net.marks(node) if minds] for node in range(net.nodes)]
        self._works = [sum([state.load[task] for task, _ in net.marks(node)]) for node in range(net.nodes)]
        self._urgents = [self._urgent_at(node) for node in range(net.nodes)]

    def can_run(self, task):
        if self._load[task] == 0:
            return False
        for node, minds in self._net.tasks[task]:
            if minds and self._lasts[node] == task:
                return False
        return True

    def run(self, task):
        """Runs a task that can be run."""
        self._load[task] -= 1
        for node, _ in self._net.tasks[task]:
            self._lasts[node] = task
            self._works[node] -= 1
            self._urgents[node] = self._urgent_at(node)

    def reached(self):
        """The state behind the runs."""
        return State(self._net, self._load, self._lasts)

    def is_over(self):
        """Whether nothing is left."""
        return not any(self._load)

    def closers(self, task):
        """The ends that do not leave open a task that is left, ascending."""
        found = []
        for node, minds in self._net.tasks[task]:
            urgent = self._urgents[node]
            if urgent is None:
                if minds and self._lasts[node] == task:
                    found.append(node)
            elif urgent != task:
                found.append(node)
        return found

    def least_safe(self):
        """The least safe task, or None if there is none."""
        for task, left in enumerate(self._load):
            if left > 0 and self.closers(task) == []:
                return task
        return None

    def passed_over(self, due):
        """A tuple (task, nodes) for each task that is lesser than the due one and left, with its closers."""
        return [(task, self.closers(task)) for task, left in enumerate(self._load[:due]) if left > 0]

    def _urgent_at(self, node):
        """The task for which a node is urgent: the one with the slack 0, unless it is the last."""
        runs = self._works[node]
        # A slack of 0 takes an odd work; of a task that is not the last, just half of it and 1 is left.
        if runs % 2 == 1:
            for task in self._minded[node]:
                if 2 * self._load[task] == runs + 1:
                    return None if self._lasts[node] == task else task
        return None


def run_off(state):
    """The tasks run if the least safe one is run each time; all that is left, if the state can be done."""
    course = Course(state)
    schedule = []
    task = course.least_safe()
    while task is not None:
        schedule.append(task)
        course.run(task)
        task = course.least_safe()
    return schedule
