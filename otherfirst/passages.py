"""Passages: ways from one build of a state to another one by exchanges of neighbours."""

from otherfirst.checks import check_many
from otherfirst.errors import InvalidBuild
from otherfirst.moments import moments_of
from otherfirst.taking import is_build

MOST_EXCHANGES = 60


def passage(state, one, other):
    """Builds from one to the other, each got from the one ahead of it by an exchange of neighbours."""
    check_many(opposite(state, one, other), MOST_EXCHANGES)
    builds = [list(one)]
    for at, task in enumerate(other):
        # What leads to either build leads to the joint of both, so the next taking can come ahead of all
        # that the other build has later.
        place = builds[-1].index(task, at)
        for index in range(place, at, -1):
            builds.append(_exchanged(builds[-1], index))
    return builds


def opposite(state, one, other):
    """The number of pairs of takings that stand in one order in one build and in the opposite one in the other."""
    _check_build(state, one)
    _check_build(state, other)
    places = {taking: at for at, taking in enumerate(moments_of(other))}
    order = [places[taking] for taking in moments_of(one)]
    return sum([len([1 for later in order[at + 1:] if later < place]) for at, place in enumerate(order)])


def _check_build(state, value):
    if not is_build(state, value):
        raise InvalidBuild(value)


def _exchanged(build, at):
    """The build in which the item at an index stands one place ahead."""
    return build[:at - 1] + [build[at], build[at - 1]] + build[at + 1:]
