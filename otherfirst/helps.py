"""Help: rests and further shared tasks with which a state can be done."""

from otherfirst.checks import check_many
from otherfirst.errors import InvalidPairs, NoPartner
from otherfirst.kinds import is_index, is_row, is_tuple_of
from otherfirst.lasts import check_sound
from otherfirst.profiles import profile
from otherfirst.states import widened

MOST_PAIRS = 100


def least_help(state):
    """The rests with which the state can be done, and none of which can be less."""
    check_sound(state.net, state.lasts)
    return tuple([needs for needs, _ in profile(state)])


def shared_help(state):
    """As few pairs of nodes as can be that help."""
    needs = least_help(state)
    if len(needs) == 1 and needs[0] > 0:
        raise NoPartner(0)
    count = max(max(needs), (sum(needs) + 1) // 2)
    check_many(count, MOST_PAIRS)
    left = list(needs)
    pairs = []
    while len(pairs) < count:
        # The two nodes that need most are paired, so that no need is left alone early.
        ranked = sorted([(-number, node) for node, number in enumerate(left)])
        pair = sorted([node for _, node in ranked[:2]])
        for node in pair:
            left[node] = max(0, left[node] - 1)
        pairs.append(tuple(pair))
    return pairs


def helped(state, pairs):
    """The state with a further shared task, left once, for each pair."""
    if not _is_pairs(state.net.nodes, pairs):
        raise InvalidPairs(pairs)
    return widened(state, [((node, False), (other, False)) for node, other in pairs], [1] * len(pairs))


def _is_pairs(nodes, value):
    return is_row(value) and len(value) <= MOST_PAIRS and all([_is_pair(nodes, item) for item in value])


def _is_pair(nodes, value):
    return is_tuple_of(value, 2) and all([is_index(node, nodes) for node in value]) and value[0] < value[1]
