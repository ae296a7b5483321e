"""What a node tells from its own counts and its own last alone.

The rows of a node are a list of tuples (task, minds, left), ascending, one for each task at it.
"""

from math import comb


def work_in(rows):
    return sum([row[2] for row in rows])


def slacks_in(rows, last):
    """A tuple (task, slack) for each task that the node minds."""
    runs = work_in(rows)
    return [(task, runs + 1 - 2 * left - int(task == last)) for task, minds, left in rows if minds]


def tight_in(rows, last):
    """The task with the slack 0, or None; there are never two."""
    for task, slack in slacks_in(rows, last):
        if slack == 0:
            return task
    return None


def urgent_in(rows, last):
    """The task that the node has to run next, or None."""
    task = tight_in(rows, last)
    return None if task == last else task


def open_in(rows, last):
    """The tasks that the node leaves open."""
    urgent = urgent_in(rows, last)
    if urgent is not None:
        return [urgent]
    return [task for task, minds, left in rows if left > 0 and not (minds and task == last)]


def addable_in(rows, last):
    """The tasks of which one more leaves the counts of the node fine, if they were."""
    short = [task for task, slack in slacks_in(rows, last) if slack < 1]
    return [row[0] for row in rows if row[0] not in short]


def behind_in(rows, task):
    """The rows behind a run of a task."""
    return [(other, minds, left - int(other == task)) for other, minds, left in rows]


def order_in(rows, last, after=None):
    """An order of all runs of the rows, from the last, that does not end with a task `after` if the node minds it.

    It is None if there is no such order.
    """
    # What comes behind the order takes a slack from that task, just as the last takes one.
    if any([slack < int(task == after) for task, slack in slacks_in(rows, last)]):
        return None
    order = []
    while work_in(rows) > 0:
        last = _due_in(rows, last, after)
        rows = behind_in(rows, last)
        order.append(last)
    return order


def count_in(rows, last):
    """The number of orders of all runs of the rows that the node could run from the last."""
    pieces, number = 0, 1
    for _, minds, left in rows:
        if not minds:
            pieces += left
            number *= comb(pieces, left)
    minded = sorted([(left, int(task == last)) for task, minds, left in rows if minds and left > 0])
    if minded == []:
        return number
    # The minded tasks are cut into pieces and mixed in one by one; at each number of pieces stands the sum of the
    # signs of all that can come of it. Runs that are not minded are pieces of their own.
    sums = {pieces: number}
    for left, barred in minded[:-1]:
        sums = _mixed(sums, _cuts(left, barred))
    # The task that is left most often need not be cut, which keeps the sums few: each run takes a gap of its own.
    left, barred = minded[-1]
    return sum([signs * comb(many + 1 - barred, left) for many, signs in sums.items()])


def _due_in(rows, last, after):
    """The task that the node has to run next in such an order, or else the least that it can run."""
    for task, slack in slacks_in(rows, last):
        if slack == int(task == after) and task != last:
            return task
    return [task for task, minds, left in rows if left > 0 and not (minds and task == last)][0]


def _cuts(left, barred):
    """Tuples of a number of pieces and the sum of the signs of all ways to cut the runs of a task into so many."""
    # The runs of one piece stand together, and each joint between them changes the sign. So the orders in which runs
    # of the task stand together fall out of the sum. A barred last has a piece of its own, which is joined to it,
    # perhaps without a run: it stands ahead of everything and is not mixed in.
    cuts = []
    for pieces in range(1 - barred, left + 1):
        number = comb(left - 1 + barred, pieces - 1 + barred)
        cuts.append((pieces, number if (left - pieces) % 2 == 0 else -number))
    return cuts


def _mixed(sums, cuts):
    """The sums behind another task, whose pieces go between the others in all ways."""
    mixed = {}
    for others, number in sums.items():
        for pieces, signs in cuts:
            many = others + pieces
            mixed[many] = mixed.get(many, 0) + number * signs * comb(many, pieces)
    return mixed
