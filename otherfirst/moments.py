"""Moments: the runs of a row of tasks, told apart by how many of the same task stand ahead."""


def moments_of(row):
    """A tuple (task, k) for the k-th item of each task, counted from 0."""
    counts = {}
    found = []
    for task in row:
        number = counts.get(task, 0)
        found.append((task, number))
        counts[task] = number + 1
    return found
