"""Sheets: printed rows that change, know which of them are wrong, and are repaired."""

from dittorows.basics import MOST_ROWS, check_row, is_number, is_printed_row, leading_blanks, read_rows
from dittorows.errors import InvalidCells, InvalidCount, InvalidPlace, InvalidRow, Loose, NothingToUndo, TooFew, TooMany
from dittorows.pages import filled
from dittorows.repairs import just_written


def check_place(place, most):
    """Raise InvalidPlace unless the place is an integer from 0 to the most."""
    if not is_number(place, most + 1):
        raise InvalidPlace("not a place for rows")


def moved(rows, first, last, place):
    """Return the rows with those from the first to the last put ahead of one of the others, or behind them all."""
    others = rows[:first] + rows[last + 1:]
    return others[:place] + rows[first:last + 1] + others[place:]


def without(rows, row):
    """Return the rows without one."""
    return rows[:row] + rows[row + 1:]


def with_row(rows, place, row):
    """Return the rows with one more, which has the number of the place."""
    return rows[:place] + (row,) + rows[place:]


class Sheet:
    """Printed rows that change, each with its true full row; undo brings back how they were before."""

    def __init__(self, page):
        self._true = filled(page)
        self._cells = page
        self._past = []

    def _change(self, cells, true):
        """Take over the rows of an operation, and keep those before it for undo."""
        self._past.append((self._cells, self._true))
        self._cells = cells
        self._true = true

    def move(self, first, last, place):
        """Take out the rows from the first to the last and put them in again at a place among the others."""
        check_row(first, len(self._cells))
        check_row(last, len(self._cells))
        if last < first:
            raise InvalidRow("the last row lies ahead of the first one")
        check_place(place, len(self._cells) - (last - first + 1))
        self._change(moved(self._cells, first, last, place), moved(self._true, first, last, place))

    def remove(self, row):
        """Take out a row and return its true full row."""
        check_row(row, len(self._cells))
        if len(self._cells) == 1:
            raise TooFew("the only row of the sheet")
        true = self._true[row]
        self._change(without(self._cells, row), without(self._true, row))
        return true

    def insert(self, place, cells):
        """Put in a printed row, which then has the number of the place and means what it is read as there."""
        check_place(place, len(self._cells))
        if not is_printed_row(cells) or len(cells) != len(self._cells[0]):
            raise InvalidCells("not a printed row of the width of the sheet")
        if len(self._cells) == MOST_ROWS:
            raise TooMany("no more rows than these on a sheet")
        true = read_rows(self._cells[:place] + (cells,))[place]
        if None in true:
            raise Loose("a blank would mean nothing")
        self._change(with_row(self._cells, place, cells), with_row(self._true, place, true))

    def write(self, row, count):
        """Write the true values into the last ones of the blanks of a row, so that so many are left."""
        check_row(row, len(self._cells))
        if not is_number(count, leading_blanks(self._cells[row]) + 1):
            raise InvalidCount("not a number of blanks that can be left")
        cells = (None,) * count + self._true[row][count:]
        self._change(with_row(without(self._cells, row), row, cells), self._true)

    def adopt(self):
        """Make what the rows mean now their true full rows, and return the list of those that were wrong."""
        read = tuple(self.read_now)
        # a blank that means nothing has only blanks above it, so that its cell means nothing in the first row, too
        if None in read[0]:
            raise Loose("a cell means nothing")
        rows = self.wrong()
        self._change(self._cells, read)
        return rows

    def repair(self):
        """Write the fewest cells so that no row is wrong, and return their number."""
        before = [leading_blanks(row) for row in self._cells]
        cells = just_written(self._true, before)
        self._change(cells, self._true)
        return sum(before) - sum([leading_blanks(row) for row in cells])

    def undo(self):
        """Revert the last operation that is not undone."""
        if len(self._past) == 0:
            raise NothingToUndo("no operation to undo")
        self._cells, self._true = self._past.pop()

    def wrong(self):
        """Return the ascending list of the rows that mean something else than their true full rows."""
        return [row for row, meaning in enumerate(self.read_now) if meaning != self._true[row]]

    @property
    def cells_now(self):
        """Return the tuple of the printed rows."""
        return self._cells

    @property
    def read_now(self):
        """Return the list of the rows as they are read."""
        return read_rows(self._cells)

    @property
    def true_now(self):
        """Return the list of the true full rows."""
        return list(self._true)

    def __len__(self):
        """Return the number of rows."""
        return len(self._cells)

    def __eq__(self, other):
        """Return whether both are sheets with the same printed and the same true rows."""
        return isinstance(other, Sheet) and self._cells == other._cells and self._true == other._true

    def copy_of(self):
        """Return an independent sheet with the same rows and the same operations to undo."""
        # the printed rows may begin with blanks, and then are no page; the true rows always are one
        twin = Sheet(self._true)
        twin._cells = self._cells
        twin._past = list(self._past)
        return twin
