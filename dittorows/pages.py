"""What pages and tables are, what a page means, and the pages that mean a table."""

from dittorows.basics import are_printed_rows, check_number, choice_number, count_choices
from dittorows.basics import leading_blanks, nth_choice, read_rows, values_shared
from dittorows.errors import InvalidPage, InvalidTable


def is_page(value):
    """Return whether any value is a page."""
    return are_printed_rows(value) and leading_blanks(value[0]) == 0


def is_table(value):
    """Return whether any value is a table."""
    return are_printed_rows(value) and all([leading_blanks(row) == 0 for row in value])


def check_page(page):
    """Raise InvalidPage unless the value is a page."""
    if not is_page(page):
        raise InvalidPage("not a page")


def check_table(table):
    """Raise InvalidTable unless the value is a table."""
    if not is_table(table):
        raise InvalidTable("not a table")


def filled(page):
    """Return the table that a page means."""
    check_page(page)
    return tuple(read_rows(page))


def blanks_of(page):
    """Return the list of the numbers of blanks of the rows of a page."""
    check_page(page)
    return [leading_blanks(row) for row in page]


def cells_of(page):
    """Return the number of printed cells of a page."""
    return sum([len(page[row]) - blanks for row, blanks in enumerate(blanks_of(page))])


def shared(table):
    """Return the list with, for each row, how many values it shares with the row above it."""
    check_table(table)
    return [0] + [values_shared(table[row - 1], table[row]) for row in range(1, len(table))]


def with_blanks(table, numbers):
    """Return the rows of a table with so many blanks each."""
    return tuple([(None,) * blanks + row[blanks:] for row, blanks in zip(table, numbers)])


def printed(table):
    """Return the page with as many blanks as possible that means a table."""
    return with_blanks(table, shared(table))


def blank_choices(table):
    """Return the list with, for each row of a table, how many numbers of blanks it can have."""
    return [most + 1 for most in shared(table)]


def count_pages(table):
    """Return how many pages mean a table."""
    return count_choices(blank_choices(table))


def nth_page(table, number):
    """Return the page with a number among those that mean a table."""
    sizes = blank_choices(table)
    check_number(number, count_choices(sizes))
    return with_blanks(table, nth_choice(number, sizes))


def page_number(page):
    """Return the number of a page among those that mean the same table."""
    return choice_number(blanks_of(page), blank_choices(filled(page)))
