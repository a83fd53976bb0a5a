"""The orders of the rows of a page: how they are read, and those that keep the page."""

from dittorows.basics import check_number, check_order, check_row, choice_number, count_choices
from dittorows.basics import is_number, leading_blanks, nth_choice, read_rows, values_shared
from dittorows.errors import InvalidChoice, InvalidColumn, Loose
from dittorows.pages import blanks_of, check_page, filled


def keeps(page, order):
    """Return whether an order keeps the page."""
    return wrong_rows(page, order) == []


def read_in(page, order):
    """Return the list of the rows as they are read in an order, in this order."""
    check_page(page)
    check_order(order, len(page))
    return read_rows([page[row] for row in order])


def wrong_rows(page, order):
    """Return the ascending list of the numbers of the rows that mean something else in an order."""
    table = filled(page)
    read = read_in(page, order)
    return sorted([row for row, meaning in zip(order, read) if meaning != table[row]])


def sequence_of(page):
    """Return the list of the rows by their numbers of blanks, those with as many by their numbers."""
    ranked = sorted([(blanks, number) for number, blanks in enumerate(blanks_of(page))])
    return [row for _, row in ranked]


def hosts_among(page, table, ahead, row):
    """Return the list of those rows ahead behind which a row means the same as on the page, None for the front."""
    blanks = leading_blanks(page[row])
    if blanks == 0:
        return [None] + ahead
    return [other for other in ahead if values_shared(table[other], table[row]) >= blanks]


def list_hosts(page):
    """Return the list with, for each row in the sequence, the list of its hosts."""
    table = filled(page)
    sequence = sequence_of(page)
    return [hosts_among(page, table, sequence[:place], row) for place, row in enumerate(sequence)]


def hosts_of(page, row):
    """Return the list of the hosts of a row."""
    check_page(page)
    check_row(row, len(page))
    sequence = sequence_of(page)
    return hosts_among(page, filled(page), sequence[:sequence.index(row)], row)


def host_choices(page):
    """Return the list of the numbers of hosts of the rows in the sequence."""
    return [len(hosts) for hosts in list_hosts(page)]


def count_orders(page):
    """Return how many orders keep the page."""
    return count_choices(host_choices(page))


def nth_order(page, number):
    """Return the order with a number among those that keep the page."""
    sizes = host_choices(page)
    check_number(number, count_choices(sizes))
    order = []
    for row, hosts, index in zip(sequence_of(page), list_hosts(page), nth_choice(number, sizes)):
        host = hosts[index]
        order.insert(0 if host is None else order.index(host) + 1, row)
    return tuple(order)


def code_of(page, order):
    """Return the code of an order that keeps the page."""
    sequence = sequence_of(page)
    code = []
    for place, hosts in enumerate(list_hosts(page)):
        standing = [row for row in order if row in sequence[:place + 1]]
        at = standing.index(sequence[place])
        code.append(hosts.index(None if at == 0 else standing[at - 1]))
    return code


def order_number(page, order):
    """Return the number of an order among those that keep the page."""
    if not keeps(page, order):
        raise Loose("the order does not keep the page")
    return choice_number(code_of(page, order), host_choices(page))


def sort_order(page, column, *, blanks_last=True):
    """Return the order in which the rows are sorted by the cells that are printed in a column."""
    check_page(page)
    if not is_number(column, len(page[0])):
        raise InvalidColumn("not the number of a column")
    if blanks_last is not True and blanks_last is not False:
        raise InvalidChoice("neither True nor False")
    # blanks are sorted apart: None cannot be compared with a string
    blank = [number for number, row in enumerate(page) if row[column] is None]
    full = [(row[column], number) for number, row in enumerate(page) if row[column] is not None]
    ranked = [number for _, number in sorted(full)]
    return tuple(ranked + blank) if blanks_last else tuple(blank + ranked)
