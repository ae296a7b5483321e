"""Tallies: the counts of a load that change by single runs, with the work of each node kept beside them."""


class Tally:
    """Counts of a net, and lasts that stay as they are. The load and the lasts that are passed are not changed."""

    def __init__(self, net, load, lasts):
        self.load = list(load)
        self._net = net
        self._lasts = tuple(lasts)
        self._works = [sum([load[task] for task, _ in net.marks(node)]) for node in range(net.nodes)]

    def change(self, task, number):
        """So many more runs of the task are left; fewer, if the number is below 0."""
        self.load[task] += number
        for node, _ in self._net.tasks[task]:
            self._works[node] += number

    def slack(self, task, node):
        """The slack of a task at an end that minds it."""
        return self._works[node] + 1 - 2 * self.load[task] - int(self._lasts[node] == task)

    def is_often(self, task, node):
        """Whether the node minds the task and has it too often."""
        return (node, True) in self._net.tasks[task] and self.slack(task, node) < 0

    def often_at(self, node):
        """The task that is too often at the node, the least one if there are two, or None."""
        for task, minds in self._net.marks(node):
            if minds and self.slack(task, node) < 0:
                return task
        return None

    def can_grow(self, task):
        """Whether one more of the task leaves the counts fine, if they are."""
        return all([not minds or self.slack(task, node) > 0 for node, minds in self._net.tasks[task]])

    def is_fine(self):
        return all([self.often_at(node) is None for node in range(self._net.nodes)])
