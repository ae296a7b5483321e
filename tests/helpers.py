"""What the tests share: judges of equal values, of refusals, and values of all kinds."""

import copy
import random
import unittest

from otherfirst.errors import InvalidNode, OtherError
from otherfirst.exchanges import Exchange
from otherfirst.lasts import circle_of
from otherfirst.nets import Net
from otherfirst.states import State
from otherfirst.stations import Station
from tests.judge import all_lasts

# The net of the examples in the document.
ROW = Net(3, [((0, True), (1, True)), ((1, True), (2, False)), ((2, True),)])
# Three nodes, each two of which share a task that both mind.
TRIANGLE = Net(3, [((0, True), (1, True)), ((1, True), (2, True)), ((0, True), (2, True))])
PAIR = Net(2, [((0, True), (1, True)), ((0, True), (1, True))])
EMPTY = Net(2, [])
LONG = 10 ** 20 - 1


def any_values():
    """Values of all kinds that a judge can be asked about, and some more."""
    deep = 0
    for _ in range(8):
        deep = [deep]
    state = State(ROW, [1, 1, 1])
    return [
        None, True, False, 0, 1, 2, -1, 3, 99, 100, LONG, -LONG, "", "0", "run", "often", "ring", "3:", "/",
        [], (), {}, {"a": 1}, {"a": [1, {"b": ()}]}, [None], (None,), [0], (0,), [True], [[]], [()], ([],),
        [0, 1], (0, 1), [[0, 1]], [(0, 1)], ((0, 1),), [("0", 1)], [(0, 1, 2)], [None, None, None], [1, 1, 1],
        ("often",), ("ring",), ("often", 0), ("ring", None), ("ring", []), ("often", 0, 0), ["ring", []],
        ("often", None, None), ("ring", [], []), ("bare", 0), ("ask", "run", 0, 1, 0), ("yes", "run", [], {}, None),
        ([], {}, None, "", ()), deep, tuple(deep), [deep, deep], ROW, state, [state], (ROW, state), [ROW, 1],
        Station(0, []), Exchange(state), InvalidNode(0), [InvalidNode(0)], 1.0, [1.0, 1.0, 1.0], b"3:", object(),
    ]


def same(one, other):
    """Whether two values are equal, and of the same kind at every place."""
    if type(one) is not type(other):
        return False
    if isinstance(one, (list, tuple)):
        return len(one) == len(other) and all(same(a, b) for a, b in zip(one, other))
    return one == other


class Case(unittest.TestCase):
    def agree(self, got, wanted):
        self.assertTrue(same(got, wanted), f"got {got!r}, not {wanted!r}")

    def refuses(self, error, attributes, call, *args, **named):
        """The call raises just this error with just these attributes."""
        lists = [item for item in list(args) + list(named.values()) if isinstance(item, list)]
        before = copy.deepcopy(lists)
        with self.assertRaises(OtherError) as caught:
            call(*args, **named)
        self.agree(lists, before)
        self.assertIs(type(caught.exception), error)
        self.assertEqual(sorted(vars(caught.exception)), sorted(attributes))
        for name, value in attributes.items():
            self.agree(getattr(caught.exception, name), value)
        return caught.exception

    def refuses_all(self, error, values, call):
        """The call raises this error for each value, with this very value in `given`."""
        for value in values:
            with self.assertRaises(OtherError) as caught:
                call(value)
            self.assertIs(type(caught.exception), error, repr(value))
            self.assertIs(caught.exception.given, value)

    def refuses_in_order(self, call, steps, **fixed):
        """Each step is (name, good, bad, error): of several bad arguments the first one counts."""
        for at, (_, _, wrong, error) in enumerate(steps):
            named = {name: good if k < at else bad for k, (name, good, bad, _) in enumerate(steps)}
            with self.assertRaises(OtherError) as caught:
                call(**fixed, **named)
            self.assertIs(type(caught.exception), error)
            self.assertIs(caught.exception.given, wrong)

    def unchanged(self, call, *args):
        """The call changes none of its arguments; what it returns."""
        before = copy.deepcopy(args)
        result = call(*args)
        for one, other in zip(before, args):
            self.agree(other, one)
        return result

    def new_each_time(self, call):
        """The call returns an equal list each time, which nobody else keeps."""
        first = call()
        self.assertIs(type(first), list)
        kept = [item for item in first]
        second = call()
        self.assertEqual(second, kept)
        self.assertIsNot(second, first)
        second.append("changed")
        self.assertEqual(first, kept)
        self.assertEqual(call(), kept)


def no_tasks_of(net):
    """Values that are no tasks of a net."""
    return [None, True, False, -1, len(net), LONG, "0", [0], (0,), {}, {"a": 0}, net, 0.0]


def no_nodes_of(net):
    """Values that are no nodes of a net."""
    return [None, True, False, -1, net.nodes, LONG, "0", [0], (0,), {}, {"a": 0}, net, 0.0]


def no_schedules_of(net):
    """Values that are no schedules of a net, run or not; the net has a task."""
    return [None, True, 0, "", "0", {}, {"a": 0}, net, [None], [True], [False], (True,), [-1], [len(net)],
            ["0"], [[0]], [(0,)], [0, 0.0], [0] * 401, (0,) * 401]


def no_loads_of(net):
    """Values that are no loads of a net, nor any other list of counts of that length; the net has three tasks."""
    return [None, True, 0, "", "000", {}, net, [], [0] * (len(net) - 1), [0] * (len(net) + 1), (0,) * (len(net) + 1),
            [0, 0, None], [True, 0, 0], [0, False, 0], (0, 0, -1), [0, 0, "0"], [0, 0, 0.0], [[0], 0, 0], [[0, 0, 0]]]


def no_lasts_of(net):
    """Values that are no lasts of a net; the net has three nodes, and its task 0 is not at its last node."""
    return [None, True, 0, "", {}, net, [], [None, None], [None] * 4, (None,) * 4, [None, None, 0],
            [None, None, True], [False, None, None], [None, len(net), None], [-1, None, None], [None, None, "0"],
            [None, [0], None], [0.0, None, None], [[None, None, None]]]


def lasts_of(net, sound=True):
    """All lasts of a net; the sound ones alone, if not told otherwise."""
    return [lasts for lasts in all_lasts(net) if not sound or circle_of(net, lasts) is None]


def small_nets(seed, number, most_nodes=3, most_tasks=4):
    rng = random.Random(seed)
    return [PAIR, TRIANGLE, ROW, EMPTY] + [random_net(rng, most_nodes, most_tasks) for _ in range(number)]


def random_net(rng, most_nodes=4, most_tasks=5):
    nodes = rng.randint(1, most_nodes)
    tasks = []
    for _ in range(rng.randint(0, most_tasks)):
        if nodes > 1 and rng.random() < 0.75:
            one, other = sorted(rng.sample(range(nodes), 2))
            tasks.append(((one, rng.random() < 0.8), (other, rng.random() < 0.8)))
        else:
            tasks.append(((rng.randrange(nodes), rng.random() < 0.7),))
    return Net(nodes, tasks)


def random_tree(rng, nodes):
    """A plain tree, its tasks in any order."""
    names = list(range(nodes))
    rng.shuffle(names)
    pairs = [sorted((names[node], names[rng.randrange(node)])) for node in range(1, nodes)]
    rng.shuffle(pairs)
    return Net(nodes, [((one, True), (other, True)) for one, other in pairs])


def random_trees(seed, number, most_nodes=5):
    rng = random.Random(seed)
    return [random_tree(rng, rng.randint(1, most_nodes)) for _ in range(number)]


def random_plain(rng, most_nodes=4, most_tasks=5):
    """A plain net, with rings or without, in one part or in several."""
    nodes = rng.randint(1, most_nodes)
    tasks = []
    for _ in range(rng.randint(0, most_tasks) if nodes > 1 else 0):
        one, other = sorted(rng.sample(range(nodes), 2))
        tasks.append(((one, True), (other, True)))
    return Net(nodes, tasks)


def random_forest(rng, most_nodes=4, own=2):
    """A net whose shared tasks make no ring of nodes."""
    nodes = rng.randint(1, most_nodes)
    tasks = []
    for node in range(1, nodes):
        if rng.random() < 0.8:
            tasks.append(((rng.randrange(node), rng.random() < 0.8), (node, rng.random() < 0.8)))
    for _ in range(rng.randint(0, own)):
        tasks.append(((rng.randrange(nodes), rng.random() < 0.7),))
    rng.shuffle(tasks)
    return Net(nodes, tasks)


def random_lasts(rng, net, none=0.4):
    return [None if rng.random() < none else rng.choice([None] + net.at(node)) for node in range(net.nodes)]


def random_state(rng, most_nodes=4, most_tasks=5, most_left=2, none=0.4):
    net = random_net(rng, most_nodes, most_tasks)
    load = [rng.randint(0, most_left) for _ in range(len(net))]
    return State(net, load, random_lasts(rng, net, none))


def random_states(seed, number, **limits):
    rng = random.Random(seed)
    return [random_state(rng, **limits) for _ in range(number)]


def all_states(net, most_left):
    """All states of a net in which no task is left more often than that."""
    loads = [[]]
    for _ in range(len(net)):
        loads = [load + [count] for load in loads for count in range(most_left + 1)]
    lasts = [[]]
    for node in range(net.nodes):
        lasts = [row + [last] for row in lasts for last in [None] + net.at(node)]
    return [State(net, load, row) for load in loads for row in lasts]
