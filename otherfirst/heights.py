"""Heights: rows of nodes, whose loads are walks that begin and end at 0 and go up or down by 1 at most."""

from otherfirst.decide import can_be_done
from otherfirst.errors import InvalidIndex, InvalidLoad, InvalidNodes
from otherfirst.kinds import MOST_NODES, is_from_to, is_index
from otherfirst.nets import Net
from otherfirst.states import State


def row_net(nodes):
    """The plain net in which the nodes stand in a row and each two neighbours share a task."""
    _check_nodes(nodes)
    return Net(nodes, [((node, True), (node + 1, True)) for node in range(nodes - 1)])


def count_row_loads(nodes):
    """The number of loads of a row of nodes that can be done from fresh lasts."""
    _check_nodes(nodes)
    return _walks(nodes)[nodes][0]


def row_load(nodes, index):
    """The load at an index of the ascending list of these loads."""
    _check_nodes(nodes)
    walks = _walks(nodes)
    if not is_index(index, walks[nodes][0]):
        raise InvalidIndex(index)
    load = []
    height = 0
    ahead = index
    for steps in range(nodes - 1, 0, -1):
        height = max(0, height - 1)
        while ahead >= walks[steps][height]:
            ahead -= walks[steps][height]
            height += 1
        load.append(height)
    return tuple(load)


def row_index(nodes, load):
    """The index of one of these loads."""
    if not can_be_done(State(row_net(nodes), load)):
        raise InvalidLoad(load)
    walks = _walks(nodes)
    index = 0
    height = 0
    for at, left in enumerate(load):
        index += sum(walks[nodes - 1 - at][max(0, height - 1):left])
        height = left
    return index


def _check_nodes(nodes):
    if not is_from_to(nodes, 1, MOST_NODES):
        raise InvalidNodes(nodes)


def _walks(nodes):
    """At a number of steps and at a height, the number of walks of so many steps from there to 0, never below it."""
    table = [[1] + [0] * nodes]
    while len(table) <= nodes:
        ahead = table[-1]
        table.append([sum(ahead[max(0, height - 1):height + 2]) for height in range(nodes + 1)])
    return table
