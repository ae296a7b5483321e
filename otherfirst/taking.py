"""Taking on: loads that grow from nothing, one run at a time, with fine counts behind each."""

from otherfirst.checks import check_many, is_task_list
from otherfirst.decide import check_doable, check_possible
from otherfirst.errors import NotAbove
from otherfirst.nets import check_load
from otherfirst.rings import rings
from otherfirst.states import State, slacks, tight
from otherfirst.tallies import Tally


def addable(state):
    """The tasks of which one more leaves the counts fine, whether or not they are, ascending."""
    told = slacks(state)
    return [task for task in range(len(state.net)) if _is_fine_with(state.net, told, task)]


def removable(state):
    """The tasks that are left and of which one less can be done, ascending."""
    check_possible(state)
    urge = [tight(state, node) for node in range(state.net.nodes)]
    found = []
    for task, left in enumerate(state.load):
        # A run less takes a slack from all other tasks at its ends, so none of them may be tight there.
        loose = all([urge[node] in (None, task) for node in state.net.ends(task)])
        if left > 0 and loose and rings(_with_one_less(state, task)) == []:
            found.append(task)
    return found


def build_of(state):
    """The tasks of a state in an order in which they can be taken on from nothing."""
    check_doable(state)
    return _climb(_nothing(state), state.load)


def is_build(state, value):
    """Whether any value is a build of the state."""
    if not is_task_list(state.net, value):
        return False
    tally = _nothing(state)
    for task in value:
        if not tally.can_grow(task):
            return False
        tally.change(task, 1)
    return tuple(tally.load) == state.load


def greater(state, load):
    """The state in which each task is left as often as in the state or in the load, whichever is more."""
    check_load(state.net, load)
    return State(state.net, [max(one, other) for one, other in zip(state.load, load)], state.lasts)


def climb(state, load):
    """Tasks that can be taken on, one behind the other, from the state on, and lead to the load."""
    check_load(state.net, load)
    check_above(state.load, load)
    check_many(sum(load) - state.total())
    check_possible(state)
    check_possible(State(state.net, load, state.lasts))
    return _climb(Tally(state.net, state.load, state.lasts), load)


def check_above(low, high):
    """Raises an error if a task is left more often in the first of two loads."""
    for task, left in enumerate(low):
        if left > high[task]:
            raise NotAbove(task)


def _is_fine_with(net, told, task):
    """Whether the counts with these slacks are fine behind a taking."""
    ends = net.ends(task)
    for node, other, number in told:
        step = 0
        if node in ends:
            step = -1 if other == task else 1
        if number + step < 0:
            return False
    return True


def _with_one_less(state, task):
    load = list(state.load)
    load[task] -= 1
    return State(state.net, load, state.lasts)


def _nothing(state):
    return Tally(state.net, [0] * len(state.net), state.lasts)


def _climb(tally, goal):
    """The takings that lead from a tally to a load; both can be done, so one is possible as long as any is missing."""
    taken = []
    number = sum(goal) - sum(tally.load)
    while len(taken) < number:
        for task, count in enumerate(goal):
            while tally.load[task] < count and tally.can_grow(task):
                tally.change(task, 1)
                taken.append(task)
    return taken
