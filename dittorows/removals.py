"""The rows of a page that can stay alone, so that they mean the same without the others."""

from dittorows.basics import check_number, is_number, pick, read_rows
from dittorows.errors import InvalidStays, Loose
from dittorows.orders import hosts_among
from dittorows.pages import check_page, filled


def is_stays(value, count):
    """Return whether any value is an ascending, not empty tuple of different numbers of so many rows."""
    if not isinstance(value, tuple) or len(value) == 0:
        return False
    if not all([is_number(row, count) for row in value]):
        return False
    return list(value) == sorted(set(value))


def check_stays(stays, count):
    """Raise InvalidStays unless the stays are some of so many rows."""
    if not is_stays(stays, count):
        raise InvalidStays("not an ascending tuple of numbers of rows")


def is_safe(page, stays):
    """Return whether stays are safe."""
    table = filled(page)
    check_stays(stays, len(page))
    return read_rows([page[row] for row in stays]) == [table[row] for row in stays]


def rows_ahead(page):
    """Return the list with, for each row, the list of those that can stand directly ahead of it, None for the front."""
    table = filled(page)
    return [hosts_among(page, table, list(range(row)), row) for row in range(len(page))]


def rows_behind(page):
    """Return the dict with, for None (the front) and each row, the list of those that can stand directly behind it."""
    ahead = rows_ahead(page)
    behind = {row: [] for row in [None] + list(range(len(ahead)))}
    for row, others in enumerate(ahead):
        for other in others:
            behind[other].append(row)
    return behind


def count_behind(behind):
    """Return the dict with, for the front and each row, in how many ways stays can go on there; one way is to end."""
    counts = {}
    for row in list(behind)[::-1]:
        counts[row] = 1 + sum([counts[other] for other in behind[row]])
    return counts


def count_safe(page):
    """Return how many safe stays there are."""
    # to end at the front leaves no rows, and these are no stays
    return count_behind(rows_behind(page))[None] - 1


def nth_safe(page, number):
    """Return the safe stays with a number."""
    check_number(number, count_safe(page))
    behind = rows_behind(page)
    counts = count_behind(behind)
    stays = []
    last = None
    # to end comes ahead of all other ways to go on; to end at the front is counted too, but leaves no rows
    rest = number + 1
    while rest > 0:
        last, rest = pick([(row, counts[row]) for row in behind[last]], rest - 1)
        stays.append(last)
    return tuple(stays)


def safe_number(page, stays):
    """Return the number of safe stays."""
    if not is_safe(page, stays):
        raise Loose("the stays are not safe")
    behind = rows_behind(page)
    counts = count_behind(behind)
    number = -1
    last = None
    for row in stays:
        number = number + 1 + sum([counts[other] for other in behind[last] if other < row])
        last = row
    return number


def fewest_staying(page, stays):
    """Return safe stays with all these rows and as few others as possible."""
    check_page(page)
    check_stays(stays, len(page))
    fewest = {None: ()}
    for row, others in enumerate(rows_ahead(page)):
        # none of the rows that must stay may be passed over
        least = max([-1] + [stay for stay in stays if stay < row])
        able = [other for other in others if (-1 if other is None else other) >= least]
        fewest[row] = min([fewest[other] + (row,) for other in able], key=len)
    return fewest[stays[-1]]
