"""Pages as objects that never change."""

from dittorows.basics import MOST_ROWS, check_row, is_printed_row
from dittorows.errors import NotPrinted, OtherWidth, TooMany
from dittorows.pages import filled
from dittorows.repairs import written


class Printed:
    """A page that never changes, with the table that it means."""

    def __init__(self, rows):
        self._table = filled(rows)
        self._rows = rows

    @property
    def rows(self):
        """Return the page."""
        return self._rows

    @property
    def table(self):
        """Return the table that the page means."""
        return self._table

    def __add__(self, other):
        """Return the page of both, one behind the other."""
        if not isinstance(other, Printed):
            raise NotPrinted("not a Printed object")
        if len(self._rows[0]) != len(other._rows[0]):
            raise OtherWidth("the rows have another width")
        if len(self._rows) + len(other._rows) > MOST_ROWS:
            raise TooMany("more rows than a page can have")
        return Printed(self._rows + other._rows)

    def __len__(self):
        """Return the number of rows."""
        return len(self._rows)

    def __getitem__(self, at):
        """Return the full row with a number."""
        check_row(at, len(self._rows))
        return self._table[at]

    # without it Python would iterate by numbers until an IndexError, and find InvalidRow instead
    def __iter__(self):
        raise TypeError("a Printed object is not iterated over")

    def __contains__(self, x):
        """Return whether any value is one of the full rows."""
        # only printed rows are compared: other values may not be comparable
        return is_printed_row(x) and x in self._table

    def __eq__(self, other):
        """Return whether both are Printed objects that mean the same table."""
        return isinstance(other, Printed) and self._table == other._table

    def __call__(self, order):
        """Return a new object with the rows in an order and the fewest cells written."""
        return Printed(written(self._rows, order))
