"""Rows: orders of single nodes, and whether they fit together."""

from otherfirst.checks import check_many, check_node
from otherfirst.cycles import way_from
from otherfirst.errors import InvalidRows, NoFit, Unequal
from otherfirst.kinds import MOST_RUNS, are_integers, is_index, is_row
from otherfirst.local import behind_in, count_in, open_in, work_in
from otherfirst.moments import moments_of
from otherfirst.states import rows_of

MOST_PRODUCT = 20000
MOST_ORDERS = 200


def fit(net, rows):
    """A list of tasks that has these rows as the own rows of its nodes."""
    _check_rows(net, rows)
    count = sum([rows[net.ends(task)[0]].count(task) for task in range(len(net))])
    check_many(count)
    order, due = laid(net, rows)
    if len(order) < count:
        raise NoFit(_ring(rows, due))
    return order


def laid(net, rows):
    """The tasks of the rows in one order, as far as there is one, and how many items of each row are in it."""
    order = []
    due = [0] * net.nodes
    heads = [_item(row, 0) for row in rows]
    # The nodes whose heads may be the heads of the far ends, too.
    queue = list(range(net.nodes))
    while queue:
        task = heads[queue.pop()]
        if task is not None and all([heads[node] == task for node in net.ends(task)]):
            order.append(task)
            for node in net.ends(task):
                due[node] += 1
                heads[node] = _item(rows[node], due[node])
                queue.append(node)
    return order, due


def is_fit_ring(net, rows, value):
    """Whether any value is a ring of moments of the rows; it may begin with any of its moments."""
    _check_rows(net, rows)
    if not is_row(value) or len(value) < 2 or not all([are_integers(item, 2) for item in value]):
        return False
    steps = {}
    for row in rows:
        moments = moments_of(row)
        for one, other in zip(moments, moments[1:]):
            steps[(one, other)] = True
    turned = list(value[1:]) + list(value[:1])
    if not all([(one, other) in steps for one, other in zip(value, turned)]):
        return False
    return len(set(value)) == len(value)


def own_rows(state, node):
    """All orders of the runs left at a node that it could run alone, ascending."""
    check_node(state.net, node)
    rows = rows_of(state, node)
    check_many(work_in(rows))
    count = _count(rows, state.lasts[node])
    check_many(count, MOST_ORDERS)
    return listed_rows(state, node) if count > 0 else []


def listed_rows(state, node):
    """All these orders, if there are any and not too many."""
    rows = _kept(rows_of(state, node))
    # With fine counts what the node leaves open is just what leaves them fine, so no beginning is in vain.
    parts = [([], rows, state.lasts[node])]
    for _ in range(work_in(rows)):
        parts = [longer for part in parts for longer in _longer(part)]
    return [order for order, _, _ in parts]


def count_own_rows(state, node):
    """The number of these orders."""
    check_node(state.net, node)
    return _count(rows_of(state, node), state.lasts[node])


def _check_rows(net, rows):
    if not is_row(rows) or len(rows) != net.nodes:
        raise InvalidRows(rows)
    if not all([_is_row_at(net, node, row) for node, row in enumerate(rows)]):
        raise InvalidRows(rows)
    for task in range(len(net)):
        counts = [rows[node].count(task) for node in net.ends(task)]
        if counts[0] != counts[-1]:
            raise Unequal(task)


def _is_row_at(net, node, value):
    if not is_row(value) or len(value) > MOST_RUNS:
        return False
    return all([is_index(task, len(net)) and node in net.ends(task) for task in value])


def _item(row, at):
    return row[at] if at < len(row) else None


def _ring(rows, due):
    """A ring of moments, if no task is ready; then each moment that is left has one directly ahead of it."""
    ahead = {}
    for row, at in zip(rows, due):
        moments = moments_of(row)[at:]
        for one, other in zip(moments, moments[1:]):
            ahead[other] = one
    way = way_from(ahead, min(list(ahead)))
    return way[way.index(ahead[way[-1]]):][::-1]


def _longer(part):
    """The beginnings of orders that are one run longer, ascending."""
    order, rows, last = part
    return [(order + [task], _kept(behind_in(rows, task)), task) for task in open_in(rows, last)]


def _kept(rows):
    """The rows of the tasks that are left."""
    return [row for row in rows if row[2] > 0]


def _count(rows, last):
    """The number of orders of the runs in these rows, unless the product of the node is too great."""
    product = 1
    for _, _, left in rows:
        product *= left + 1
    check_many(product, MOST_PRODUCT)
    return count_in(rows, last)
