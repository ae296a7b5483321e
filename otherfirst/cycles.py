"""Ways and cycles along nexts: a list with the next index, or None, for each index."""


def way_from(nexts, start):
    """The different indices that one comes to from an index on, in order, itself first."""
    way = [start]
    ahead = nexts[start]
    while ahead is not None and ahead not in way:
        way.append(ahead)
        ahead = nexts[ahead]
    return way


def cycles(nexts):
    """All cycles of two or more, each from its least index on, in ascending order."""
    found = []
    for start in range(len(nexts)):
        way = way_from(nexts, start)
        if len(way) > 1 and nexts[way[-1]] == start and min(way) == start:
            found.append(way)
    return found
