"""A search of all rows of runs, which knows of the program only what a net, a load and lasts are."""


import itertools


def moves(net, load, lasts):
    """The tasks that can be run, by the words of point [4]."""
    found = []
    for task, ends in enumerate(net.tasks):
        barred = [node for node, minds in ends if minds and lasts[node] == task]
        if load[task] > 0 and not barred:
            found.append(task)
    return found


def behind(net, load, lasts, task):
    """The load and the lasts behind a run."""
    nodes = [node for node, _ in net.tasks[task]]
    load = tuple(left - 1 if other == task else left for other, left in enumerate(load))
    lasts = tuple(task if node in nodes else last for node, last in enumerate(lasts))
    return load, lasts


class Search:
    """All complete schedules of the states of one net."""

    def __init__(self, net):
        self.net = net
        self.known = {}

    def least(self, load, lasts):
        """The least complete schedule, or None if there is none."""
        key = (tuple(load), tuple(lasts))
        if key not in self.known:
            self.known[key] = self._least(*key)
        return self.known[key]

    def _least(self, load, lasts):
        if sum(load) == 0:
            return []
        for task in moves(self.net, load, lasts):
            rest = self.least(*behind(self.net, load, lasts, task))
            if rest is not None:
                return [task] + rest
        return None

    def keeping(self, load, lasts):
        """The tasks that can be run and behind which there still is a complete schedule."""
        tasks = moves(self.net, load, lasts)
        return [task for task in tasks if self.least(*behind(self.net, load, lasts, task)) is not None]

    def all(self, load, lasts):
        """All complete schedules, ascending."""
        if sum(load) == 0:
            return [[]]
        found = []
        for task in moves(self.net, load, lasts):
            for rest in self.all(*behind(self.net, load, lasts, task)):
                found.append([task] + rest)
        return found


SEARCHES = {}


def done(net, load, lasts):
    """Whether there is a complete schedule."""
    key = (net.nodes, net.tasks)
    if key not in SEARCHES:
        SEARCHES[key] = Search(net)
    return SEARCHES[key].least(load, lasts) is not None


def slack(net, load, lasts, task, node):
    """By the words of point [5]."""
    work = sum(left for left, ends in zip(load, net.tasks) if node in [end for end, _ in ends])
    return work + 1 - 2 * load[task] - (1 if lasts[node] == task else 0)


def often(net, load, lasts):
    """A tuple (node, task) for each end that minds its task and has it too often, ascending."""
    ends = [(node, task) for task, marks in enumerate(net.tasks) for node, minds in marks if minds]
    return sorted((node, task) for node, task in ends if slack(net, load, lasts, task, node) < 0)


def between(low, high):
    """All loads between two."""
    return list(itertools.product(*[range(one, other + 1) for one, other in zip(low, high)]))


def within(high):
    """All loads within bounds."""
    return between([0] * len(high), high)


def true_lasts(net):
    """All lasts that some runs leave, from fresh ones."""
    return list(shortest_pasts(net))


def shortest_pasts(net):
    """For each lasts that some runs leave, from fresh ones, all the shortest rows of such runs."""
    endless = (1,) * len(net)
    fresh = (None,) * net.nodes
    found = {fresh: [[]]}
    border = {fresh: [[]]}
    while border:
        further = {}
        for lasts, rows in border.items():
            for task in moves(net, endless, lasts):
                _, reached = behind(net, endless, lasts, task)
                if reached not in found:
                    further.setdefault(reached, []).extend(row + [task] for row in rows)
        found.update(further)
        border = further
    return found


def all_lasts(net):
    """All lasts of a net."""
    rows = [()]
    for node in range(net.nodes):
        at = [task for task, ends in enumerate(net.tasks) if node in [end for end, _ in ends]]
        rows = [row + (last,) for row in rows for last in [None] + at]
    return rows


def all_rows(net, longest):
    """All lists of tasks, up to a length, that can be run from fresh lasts without end, with the lasts behind them."""
    endless = (1,) * len(net)
    level = [([], (None,) * net.nodes)]
    found = list(level)
    for _ in range(longest):
        level = [(row + [task], behind(net, endless, lasts, task)[1])
                 for row, lasts in level for task in moves(net, endless, lasts)]
        found += level
    return found


def story(net, order):
    """The own rows of all nodes in a list of tasks."""
    return tuple(tuple(task for task in order if node in net.ends(task)) for node in range(net.nodes))


def rings_of_nodes(net):
    """All rings of nodes, as lists that begin with any of their nodes."""
    found = []
    for size in range(2, net.nodes + 1):
        for nodes in itertools.permutations(range(net.nodes), size):
            pairs = [sorted(pair) for pair in zip(nodes, nodes[1:] + nodes[:1])]
            for tasks in itertools.permutations(range(len(net)), size):
                if [list(net.ends(task)) for task in tasks] == pairs:
                    found.append(list(zip(nodes, tasks)))
    return found


def walked(net, start, without=None):
    """All nodes to which one can walk from a node, without a task."""
    found = {start}
    while True:
        ends = [set(net.ends(task)) for task in range(len(net)) if task != without]
        wider = found.union(*[pair for pair in ends if pair & found])
        if wider == found:
            return found
        found = wider


def way(net, node, other):
    """The tasks on the way from a node to another one, in a tree."""
    if node == other:
        return []
    for task in net.at(node):
        far = net.far(task, node)
        if other in walked(net, far, task) and node not in walked(net, far, task):
            return [task] + way(net, far, other)
    raise AssertionError("no way")


class Endless:
    """What can be run in a net in which each task counts as left without end, where that comes to an end."""

    def __init__(self, net):
        self.net = net
        self.load = (1,) * len(net)
        self.known = {}

    def moves(self, lasts):
        return moves(self.net, self.load, lasts)

    def behind(self, lasts, task):
        return behind(self.net, self.load, lasts, task)[1]

    def lengths(self, lasts):
        """The numbers of tasks of all days from these lasts."""
        lasts = tuple(lasts)
        if lasts not in self.known:
            found = set() if self.moves(lasts) else {0}
            for task in self.moves(lasts):
                found |= {1 + length for length in self.lengths(self.behind(lasts, task))}
            self.known[lasts] = found
        return self.known[lasts]

    def days(self, lasts, length):
        """All days of so many tasks, ascending."""
        if length == 0:
            return [] if self.moves(lasts) else [[]]
        found = []
        for task in self.moves(lasts):
            if length - 1 in self.lengths(self.behind(lasts, task)):
                found += [[task] + rest for rest in self.days(self.behind(lasts, task), length - 1)]
        return found

    def reached(self, lasts, tasks):
        """The lasts behind some tasks, or None if one of them is barred."""
        for task in tasks:
            if task not in self.moves(lasts):
                return None
            lasts = self.behind(lasts, task)
        return tuple(lasts)
