"""Journals: the lines of the deeds of a desk, read anew."""

from otherfirst.desk import VALUES, Desk
from otherfirst.errors import InvalidLine
from otherfirst.kinds import is_row, read_decimal


def read_desk(net, lasts, lines):
    """A new desk with these lasts, behind the deeds of these lines."""
    desk = Desk(net, lasts)
    if not is_row(lines):
        raise InvalidLine(lines)
    deeds = []
    for line in lines:
        deed = _read_deed(line)
        if deed is None:
            raise InvalidLine(line)
        deeds.append(deed)
    return desk.tried(deeds)


def _read_deed(line):
    """The word and the values of a line, or None if it is written amiss."""
    if not isinstance(line, str):
        return None
    word, *digits = line.split(" ")
    values = [read_decimal(part) for part in digits]
    if None in values or VALUES.get(word) != len(values):
        return None
    return tuple([word] + values)
