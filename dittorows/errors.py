"""The errors of the package."""


class DittoError(ValueError):
    """Any error that this package raises on purpose."""


class InvalidPage(DittoError):
    """A value is not a page."""


class InvalidTable(DittoError):
    """A value is not a table."""


class InvalidOrder(DittoError):
    """A value is not an order of the rows."""


class InvalidNumber(DittoError):
    """A value is not a number among those that are counted."""


class InvalidRow(DittoError):
    """A value is not the number of a row."""


class InvalidColumn(DittoError):
    """A value is not the number of a column."""


class InvalidChoice(DittoError):
    """A value is neither True nor False."""


class InvalidStays(DittoError):
    """A value does not say which rows stay."""


class InvalidPlace(DittoError):
    """A value is not a place for rows."""


class InvalidCells(DittoError):
    """A value is not a printed row of the right width."""


class InvalidCount(DittoError):
    """A value is not a number of blanks that can be left."""


class InvalidRows(DittoError):
    """A value is not a tuple of printed rows of the same width."""


class InvalidLines(DittoError):
    """A text is not that of printed rows; index tells the first wrong line, None that there is no text."""

    def __init__(self, index=None):
        super().__init__(f"index of the wrong line: {index}")
        self.index = index


class InvalidText(DittoError):
    """A value is not the text of an order."""


class InvalidCommand(DittoError):
    """A value is not a line that the console takes."""


class Loose(DittoError):
    """A blank would mean something else, or nothing."""


class NotGrouped(DittoError):
    """An order is not grouped."""


class NotPrinted(DittoError):
    """A value is not a Printed object."""


class OtherWidth(DittoError):
    """Rows have another width."""


class TooMany(DittoError):
    """There would be too many rows."""


class TooFew(DittoError):
    """There would be no row."""


class NothingToUndo(DittoError):
    """There is no operation to undo."""
