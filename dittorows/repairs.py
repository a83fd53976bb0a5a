"""The cells that must be written so that the rows of a page mean the same in another order."""

from dittorows.basics import check_order
from dittorows.pages import blanks_of, check_page, filled, shared, with_blanks


def rows_in(page, order):
    """Return the table of the full rows of a page in an order."""
    check_page(page)
    check_order(order, len(page))
    table = filled(page)
    return tuple([table[row] for row in order])


def fewest_to_write(page, order):
    """Return the fewest number of cells that must be written so that the rows mean the same in an order."""
    return sum([number for _, number in shown_in(page, order)])


def just_written(table, numbers):
    """Return the rows of a table with so many blanks each, or with fewer where the row ahead does not let so many."""
    return with_blanks(table, [min(blanks, most) for blanks, most in zip(numbers, shared(table))])


def written(page, order):
    """Return the page in an order with just the cells written that must be."""
    rows = rows_in(page, order)
    blanks = blanks_of(page)
    return just_written(rows, [blanks[row] for row in order])


def shown_in(page, order):
    """Return the list of tuples (row, number) for the rows in which cells must be written, in the order."""
    most = shared(rows_in(page, order))
    blanks = blanks_of(page)
    beyond = [(row, blanks[row] - many) for row, many in zip(order, most)]
    return [(row, number) for row, number in beyond if number > 0]
