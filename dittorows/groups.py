"""The beginnings of a table, and the orders in which the rows with each beginning stand together."""

from math import factorial

from dittorows.basics import check_number, check_order, pick, values_shared
from dittorows.errors import NotGrouped
from dittorows.pages import cells_of, check_table, printed


def beginnings_of(table):
    """Return the ascending list of the beginnings of a table."""
    check_table(table)
    return sorted({row[:many] for row in table for many in range(1, len(row) + 1)})


def fewest_cells(table):
    """Return the fewest number of printed cells of a page that means the rows of a table in any order."""
    return len(beginnings_of(table))


def is_grouped(table, order):
    """Return whether an order is grouped."""
    check_table(table)
    check_order(order, len(table))
    # just the grouped orders can be printed with the fewest cells
    return cells_of(printed(tuple([table[row] for row in order]))) == fewest_cells(table)


def grouped(table):
    """Return the table with its rows in ascending order."""
    check_table(table)
    return tuple(sorted(table))


def steps_of(table):
    """Return the dict with, for (), each beginning and each row, how many there are of what can come next behind it."""
    # behind a beginning those come next that are longer by one value, behind a whole row the rows that are equal to it
    steps = {}
    for beginning in [start[:-1] for start in beginnings_of(table)] + list(table):
        steps[beginning] = steps.get(beginning, 0) + 1
    return steps


def count_grouped(table):
    """Return how many grouped orders of a table there are."""
    count = 1
    for many in steps_of(table).values():
        count = count * factorial(many)
    return count


def ways_to(row, steps):
    """Return n if one in n of the grouped orders of the rows with these steps begins with this row."""
    ways = 1
    for many in range(len(row) + 1):
        ways = ways * steps[row[:many]]
    return ways


def rows_next(table, order):
    """Return the ascending list of the rows that can come next behind the first ones of a grouped order."""
    left = [row for row in range(len(table)) if row not in order]
    if len(order) == 0:
        return left
    same = [values_shared(table[order[-1]], table[row]) for row in left]
    most = max(same)
    return [row for row, many in zip(left, same) if many == most]


def parts_next(table, order, count):
    """Return the list of tuples (row, number) for the rows that can come next, with how many of the orders go on so."""
    rows = rows_next(table, order)
    steps = steps_of(tuple([table[row] for row in rows]))
    return [(row, count // ways_to(table[row], steps)) for row in rows]


def nth_grouped(table, number):
    """Return the grouped order with a number."""
    count = count_grouped(table)
    check_number(number, count)
    rest = number
    order = []
    while len(order) < len(table):
        parts = parts_next(table, order, count)
        row, rest = pick(parts, rest)
        count = dict(parts)[row]
        order.append(row)
    return tuple(order)


def grouped_number(table, order):
    """Return the number of a grouped order."""
    if not is_grouped(table, order):
        raise NotGrouped("the order is not grouped")
    count = count_grouped(table)
    number = 0
    for place, row in enumerate(order):
        parts = parts_next(table, order[:place], count)
        number = number + sum([size for other, size in parts if other < row])
        count = dict(parts)[row]
    return number
