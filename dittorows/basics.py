"""What several modules need: what values, rows, numbers and orders are, and how rows are read."""

from dittorows.errors import InvalidNumber, InvalidOrder, InvalidRow

SIGNS = "abcdefghijklmnopqrstuvwxyz0123456789"
MOST_SIGNS = 8
MOST_CELLS = 6
MOST_ROWS = 60


def is_number(value, count):
    """Return whether a value is an integer from 0 to less than count."""
    # bool is a subclass of int, but True and False are no integers here
    if not isinstance(value, int) or isinstance(value, bool):
        return False
    return 0 <= value < count


def check_number(number, count):
    """Raise InvalidNumber unless the number is one of so many."""
    if not is_number(number, count):
        raise InvalidNumber("not a number among those that are counted")


def check_row(row, count):
    """Raise InvalidRow unless the row is the number of one of so many rows."""
    if not is_number(row, count):
        raise InvalidRow("not the number of a row")


def is_order(value, count):
    """Return whether a value is a tuple of the integers from 0 to less than count, each once."""
    if not isinstance(value, tuple) or len(value) != count:
        return False
    # the entries are compared only when all are integers: others may not be comparable
    if not all([is_number(entry, count) for entry in value]):
        return False
    return sorted(value) == list(range(count))


def check_order(order, count):
    """Raise InvalidOrder unless the order is one of so many rows."""
    if not is_order(order, count):
        raise InvalidOrder("not an order of the rows")


def is_value(cell):
    """Return whether any cell is a value: a string of 1 to 8 small letters and digits."""
    if not isinstance(cell, str) or not 1 <= len(cell) <= MOST_SIGNS:
        return False
    return all([sign in SIGNS for sign in cell])


def leading_blanks(row):
    """Return how many of the first cells of a tuple are None."""
    blanks = 0
    while blanks < len(row) and row[blanks] is None:
        blanks += 1
    return blanks


def is_printed_row(value):
    """Return whether any value is a printed row."""
    if not isinstance(value, tuple) or not 1 <= len(value) <= MOST_CELLS:
        return False
    return all([is_value(cell) for cell in value[leading_blanks(value):]])


def are_printed_rows(value):
    """Return whether any value is a tuple of 1 to 60 printed rows of the same width."""
    if not isinstance(value, tuple) or not 1 <= len(value) <= MOST_ROWS:
        return False
    if not all([is_printed_row(row) for row in value]):
        return False
    return all([len(row) == len(value[0]) for row in value])


def values_shared(one, other):
    """Return how many values two full rows have in common from the first one on."""
    same = 0
    while same < len(one) and one[same] == other[same]:
        same += 1
    return same


def read_rows(rows):
    """Return the list of printed rows as they are read from the first one down, None for what means nothing."""
    above = (None,) * len(rows[0])
    read = []
    for row in rows:
        blanks = leading_blanks(row)
        above = above[:blanks] + row[blanks:]
        read.append(above)
    return read


def count_choices(sizes):
    """Return how many lists of indexes there are, one index below each size."""
    count = 1
    for size in sizes:
        count = count * size
    return count


def nth_choice(number, sizes):
    """Return the list of indexes with a number, in ascending order of these lists."""
    rest = number
    indexes = []
    for size in sizes[::-1]:
        rest, index = divmod(rest, size)
        indexes.append(index)
    return indexes[::-1]


def choice_number(indexes, sizes):
    """Return the number of a list of indexes, in ascending order of these lists."""
    number = 0
    for index, size in zip(indexes, sizes):
        number = number * size + index
    return number


def pick(parts, number):
    """Return the item of that one of the parts (item, size) in which a number lies, and its number within it."""
    rest = number
    at = 0
    while rest >= parts[at][1]:
        rest = rest - parts[at][1]
        at += 1
    return parts[at][0], rest
