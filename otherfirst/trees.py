"""Walks over a net: where its tasks lead, and how far."""


def toward(net, start, task=None):
    """For each node to which one can walk from a node, the nearest first, the first task on its way back.

    The given task is not walked along; it stands for the start itself.
    """
    first = {start: task}
    border = [start]
    while border:
        further = []
        for node in border:
            for other in net.at(node):
                far = net.far(other, node)
                if far is not None and other != task and far not in first:
                    first[far] = other
                    further.append(far)
        border = further
    return first


def steps_back(net, first, node, start):
    """The tuples (node, task) of the way back from a node to the start of such a walk."""
    found = []
    while node != start:
        found.append((node, first[node]))
        node = net.far(first[node], node)
    return found


def lengths(net, first):
    """The number of tasks on the way back of each node of such a walk."""
    found = {}
    for node, task in first.items():
        # The start comes first.
        found[node] = 0 if found == {} else found[net.far(task, node)] + 1
    return found
