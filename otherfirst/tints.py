"""Tints: webs of ties that are tinted so that ties with a common node differ, and the gangs that do just this."""

from otherfirst.checks import check_many
from otherfirst.errors import InvalidNodes, InvalidTies, InvalidTints, NotComplete, NotRegular
from otherfirst.gangs import MOST_NODES, Gang
from otherfirst.kinds import is_from_to, is_index, is_row, is_tuple_of
from otherfirst.schedules import is_complete
from otherfirst.states import State

MOST_TIES = 11
MOST_POWER = 100000


def tie_number(nodes, ties):
    """The number of ties at each node."""
    if not is_from_to(nodes, 2, MOST_NODES):
        raise InvalidNodes(nodes)
    if not _is_ties(nodes, ties):
        raise InvalidTies(ties)
    numbers = [len([1 for tie in ties if node in tie]) for node in range(nodes)]
    for node, number in enumerate(numbers):
        if number != numbers[0]:
            raise NotRegular(node)
    return numbers[0]


def web_gang(nodes, ties):
    """A gang with a task for each tie and one common task of all nodes, and the load of a web."""
    number = tie_number(nodes, ties)
    tasks = [tuple([(node, True) for node in tie]) for tie in ties]
    common = tuple([(node, True) for node in range(nodes)])
    return (Gang(nodes, tasks + [common]), (1,) * len(ties) + (number + 1,))


def tinted_schedule(nodes, ties, tints):
    """A complete schedule in which the ties stand by their tints between the runs of the common task."""
    number = tie_number(nodes, ties)
    if not _is_tinting(ties, number, tints):
        raise InvalidTints(tints)
    common = len(ties)
    schedule = [common]
    for tint in range(number):
        schedule.extend([tie for tie in range(common) if tints[tie] == tint])
        schedule.append(common)
    return schedule


def tints_of(nodes, ties, schedule):
    """The tinting of which a complete schedule is one."""
    gang, load = web_gang(nodes, ties)
    if not is_complete(State(gang, load), schedule):
        raise NotComplete(schedule)
    order = list(schedule)
    common = len(ties)
    return [order[:order.index(tie)].count(common) - 1 for tie in range(common)]


def tintings(nodes, ties):
    """All tintings, ascending."""
    number = tie_number(nodes, ties)
    power = 1
    for _ in ties:
        power *= number
    check_many(power, MOST_POWER)
    found = [[]]
    for _ in ties:
        found = [tints + [tint] for tints in found for tint in range(number) if _is_free(ties, tints, tint)]
    return found


def _is_ties(nodes, value):
    if not is_row(value) or len(value) > MOST_TIES or not all([_is_tie(nodes, item) for item in value]):
        return False
    return len(set(value)) == len(value)


def _is_tie(nodes, value):
    return is_tuple_of(value, 2) and all([is_index(node, nodes) for node in value]) and value[0] < value[1]


def _is_tinting(ties, number, value):
    if not is_row(value) or len(value) != len(ties) or not all([is_index(tint, number) for tint in value]):
        return False
    return all([_is_free(ties, value[:at], tint) for at, tint in enumerate(value)])


def _is_free(ties, tints, tint):
    """Whether the next tie can have this tint, behind those that have tints already."""
    tie = ties[len(tints)]
    return not any([other == tint and (met[0] in tie or met[1] in tie) for met, other in zip(ties, tints)])
