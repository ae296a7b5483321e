"""Nexts: schedules of a forest that leave each node free for what it runs next, or with the very last that is asked."""

from otherfirst.checks import check_many
from otherfirst.errors import InvalidNexts, NotBehind, NotBetween
from otherfirst.local import behind_in, order_in, work_in
from otherfirst.nets import check_lasts, is_lasts
from otherfirst.rows import laid
from otherfirst.schedules import is_complete, run_all
from otherfirst.states import State, rows_of
from otherfirst.stories import check_forest


def between(state, nexts):
    """A complete schedule behind which no node has its next as its last, if it minds it."""
    net = state.net
    _check_nexts(net, nexts)
    check_forest(net)
    check_many(state.total())
    rows = [order_in(rows_of(state, node), state.lasts[node], nexts[node]) for node in range(net.nodes)]
    if None in rows:
        raise NotBetween(rows.index(None))
    return laid(net, rows)[0]


def is_between(state, nexts, value):
    """Whether any value is such a schedule."""
    net = state.net
    _check_nexts(net, nexts)
    if not is_complete(state, value):
        return False
    lasts = run_all(state, value).lasts
    return not any([last is not None and last == after and net.minds(last, node)
                    for node, (last, after) in enumerate(zip(lasts, nexts))])


def behind(net, load, lasts):
    """A complete schedule from fresh lasts that leaves the given ones."""
    state = State(net, load)
    check_lasts(net, lasts)
    check_forest(net)
    check_many(state.total())
    rows = [_order_to(rows_of(state, node), lasts[node]) for node in range(net.nodes)]
    if None in rows:
        raise NotBehind(rows.index(None))
    return laid(net, rows)[0]


def _check_nexts(net, nexts):
    if not is_lasts(net, nexts):
        raise InvalidNexts(nexts)


def _order_to(rows, last):
    """An order of all runs of the rows, from no last, that ends with this last; None if there is no such order."""
    if last is None:
        return [] if work_in(rows) == 0 else None
    if 0 in [left for task, _, left in rows if task == last]:
        return None
    # Such an order, read from its end, begins with the last.
    order = order_in(behind_in(rows, last), last)
    return None if order is None else order[::-1] + [last]
