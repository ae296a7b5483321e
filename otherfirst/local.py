"""What a node tells from its own counts and its own last alone.

The rows of a node are a list of tuples (task, minds, left), ascending, one for each task at it.
"""


def work_in(rows):
    return sum([row[2] for row in rows])


def slacks_in(rows, last):
    """A tuple (task, slack) for each task that the node minds."""
    runs = work_in(rows)
    return [(task, runs + 1 - 2 * left - int(task == last)) for task, minds, left in rows if minds]


def tight_in(rows, last):
    """The task with the slack 0, or None; there are never two."""
    for task, slack in slacks_in(rows, last):
        if slack == 0:
            return task
    return None


def urgent_in(rows, last):
    """The task that the node has to run next, or None."""
    task = tight_in(rows, last)
    return None if task == last else task


def open_in(rows, last):
    """The tasks that the node leaves open."""
    urgent = urgent_in(rows, last)
    if urgent is not None:
        return [urgent]
    return [task for task, minds, left in rows if left > 0 and not (minds and task == last)]


def addable_in(rows, last):
    """The tasks of which one more leaves the counts of the node fine, if they were."""
    short = [task for task, slack in slacks_in(rows, last) if slack < 1]
    return [row[0] for row in rows if row[0] not in short]


def behind_in(rows, task):
    """The rows behind a run of a task."""
    return [(other, minds, left - int(other == task)) for other, minds, left in rows]


def order_in(rows, last, after=None):
    """An order of all runs of the rows, from the last, that does not end with a task `after` if the node minds it.

    It is None if there is no such order.
    """
    # What comes behind the order takes a slack from that task, just as the last takes one.
    if any([slack < int(task == after) for task, slack in slacks_in(rows, last)]):
        return None
    order = []
    while work_in(rows) > 0:
        last = _due_in(rows, last, after)
        rows = behind_in(rows, last)
        order.append(last)
    return order


def _due_in(rows, last, after):
    """The task that the node has to run next in such an order, or else the least that it can run."""
    for task, slack in slacks_in(rows, last):
        if slack == int(task == after) and task != last:
            return task
    return [task for task, minds, left in rows if left > 0 and not (minds and task == last)][0]
