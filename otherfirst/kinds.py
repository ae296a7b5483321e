"""The plain kinds of values that the points of the document ask for."""

MOST_NODES = 24
MOST_TASKS = 100
MOST_RUNS = 400


def is_integer(value):
    """Whether a value is an integer; True and False are none."""
    return isinstance(value, int) and not isinstance(value, bool)


def is_count(value):
    return is_integer(value) and value >= 0


def is_index(value, size):
    """Whether a value is an integer from 0 on and below a size."""
    return is_count(value) and value < size


def is_from_to(value, least, most):
    """Whether a value is an integer from one to another one, both included."""
    return is_integer(value) and least <= value <= most


def is_ascending(row):
    """Whether each of these integers is greater than the one ahead of it."""
    return all([one < other for one, other in zip(row, row[1:])])


def is_row(value):
    """Whether a value is a list, or a tuple in the place of one."""
    return isinstance(value, (list, tuple))


def is_tuple_of(value, size):
    return isinstance(value, tuple) and len(value) == size


def are_integers(value, size):
    """Whether a value is a tuple of so many integers."""
    return is_tuple_of(value, size) and all([is_integer(item) for item in value])


def read_decimal(word):
    """The count that is written so, without a leading zero, or None."""
    if not word.isascii() or not word.isdigit():
        return None
    if word[0] == "0" and word != "0":
        return None
    return int(word)
