"""Printed rows and orders as texts."""

from dittorows.basics import MOST_ROWS, are_printed_rows, is_order, is_printed_row
from dittorows.errors import InvalidLines, InvalidOrder, InvalidRows, InvalidText

DIGITS = "0123456789"
MOST_DIGITS = 40


def line_of(row, blank):
    """Return the line of a row, with a text for each None."""
    return ",".join([blank if cell is None else cell for cell in row])


def row_in(line):
    """Return the printed row with a line, None if there is none."""
    row = tuple([None if cell == "" else cell for cell in line.split(",")])
    return row if is_printed_row(row) else None


def number_in(word):
    """Return the integer that a word stands for in at most 40 decimal digits, None if it stands for none."""
    # int would take signs, spaces and other digits, too
    if not 1 <= len(word) <= MOST_DIGITS or not all([sign in DIGITS for sign in word]):
        return None
    if word.startswith("0") and len(word) > 1:
        return None
    return int(word)


def is_any_order(value):
    """Return whether any value is a tuple of the integers from 0 to less than 1 to 60, each once."""
    return isinstance(value, tuple) and 1 <= len(value) <= MOST_ROWS and is_order(value, len(value))


def format_rows(rows):
    """Return the text of printed rows."""
    if not are_printed_rows(rows):
        raise InvalidRows("not printed rows of the same width")
    return "\n".join([line_of(row, "") for row in rows])


def parse_rows(text):
    """Return the printed rows with a text."""
    if not isinstance(text, str):
        raise InvalidLines(None)
    lines = text.split("\n")
    width = len(lines[0].split(","))
    rows = []
    for index, line in enumerate(lines):
        row = row_in(line)
        if index == MOST_ROWS or row is None or len(row) != width:
            raise InvalidLines(index)
        rows.append(row)
    return tuple(rows)


def format_order(order):
    """Return the text of an order."""
    if not is_any_order(order):
        raise InvalidOrder("not an order of rows")
    return " ".join([str(row) for row in order])


def parse_order(text):
    """Return the order with a text."""
    if not isinstance(text, str):
        raise InvalidText("not a string")
    order = tuple([number_in(word) for word in text.split(" ")])
    if not is_any_order(order):
        raise InvalidText("not the text of an order")
    return order
