"""A console: lines that make, change and ask a sheet, and their answers."""

from dittorows.errors import InvalidCommand
from dittorows.groups import fewest_cells
from dittorows.orders import count_orders, sort_order
from dittorows.sheets import Sheet
from dittorows.texts import format_order, line_of, number_in, row_in

# for each first word but "page", which words follow it: N is a number, R a printed row
KINDS = {
    "move": "NNN", "insert": "NR", "write": "NN", "undo": "", "remove": "N", "repair": "", "adopt": "", "wrong": "",
    "rows": "", "read": "", "true": "", "orders": "", "fewest": "", "sort": "N",
}


def words_of(line):
    """Return the list of the words of any line."""
    if not isinstance(line, str):
        raise InvalidCommand("not a string")
    words = line.split(" ")
    if "" in words:
        raise InvalidCommand("an empty word")
    return words


def values_of(words, kinds):
    """Return the list of the numbers and printed rows that words stand for, each of its kind."""
    if len(words) != len(kinds):
        raise InvalidCommand("too few or too many words")
    values = [number_in(word) if kind == "N" else row_in(word) for word, kind in zip(words, kinds)]
    if None in values:
        raise InvalidCommand("a word is not a number, or not a printed row")
    return values


def new_sheet(words):
    """Return the sheet with the page whose rows are these words."""
    if len(words) == 0:
        raise InvalidCommand("no rows")
    return Sheet(tuple(values_of(words, "R" * len(words))))


def joined(items):
    """Return the answer with these items."""
    return " ".join(items) if len(items) > 0 else "."


def numbers_answer(numbers):
    """Return the answer with these numbers."""
    return joined([str(number) for number in numbers])


def rows_answer(rows, blank):
    """Return the answer with these rows, with a text for each None."""
    return joined([line_of(row, blank) for row in rows])


def answer_move(sheet, first, last, place):
    """Answer the line `move N N N`."""
    sheet.move(first, last, place)
    return "ok"


def answer_insert(sheet, place, cells):
    """Answer the line `insert N ROW`."""
    sheet.insert(place, cells)
    return "ok"


def answer_write(sheet, row, count):
    """Answer the line `write N N`."""
    sheet.write(row, count)
    return "ok"


def answer_undo(sheet):
    """Answer the line `undo`."""
    sheet.undo()
    return "ok"


def answer_remove(sheet, row):
    """Answer the line `remove N`."""
    return line_of(sheet.remove(row), "")


def answer_repair(sheet):
    """Answer the line `repair`."""
    return str(sheet.repair())


def answer_adopt(sheet):
    """Answer the line `adopt`."""
    return numbers_answer(sheet.adopt())


def answer_wrong(sheet):
    """Answer the line `wrong`."""
    return numbers_answer(sheet.wrong())


def answer_rows(sheet):
    """Answer the line `rows`."""
    return rows_answer(sheet.cells_now, "")


def answer_read(sheet):
    """Answer the line `read`."""
    return rows_answer(sheet.read_now, "?")


def answer_true(sheet):
    """Answer the line `true`."""
    return rows_answer(sheet.true_now, "")


def answer_orders(sheet):
    """Answer the line `orders`."""
    return str(count_orders(sheet.cells_now))


def answer_fewest(sheet):
    """Answer the line `fewest`."""
    return str(fewest_cells(tuple(sheet.true_now)))


def answer_sort(sheet, column):
    """Answer the line `sort N`."""
    return format_order(sort_order(sheet.cells_now, column))


ANSWERS = {
    "move": answer_move, "insert": answer_insert, "write": answer_write, "undo": answer_undo, "remove": answer_remove,
    "repair": answer_repair, "adopt": answer_adopt, "wrong": answer_wrong, "rows": answer_rows, "read": answer_read,
    "true": answer_true, "orders": answer_orders, "fewest": answer_fewest, "sort": answer_sort,
}


class Console:
    """Holds a sheet, at first none, and takes lines."""

    def __init__(self):
        self._sheet = None

    def execute(self, line):
        """Do what a line asks for and return its answer."""
        words = words_of(line)
        if words[0] == "page":
            self._sheet = new_sheet(words[1:])
            return "ok"
        if self._sheet is None or words[0] not in KINDS:
            raise InvalidCommand("no such line, or no sheet")
        values = values_of(words[1:], KINDS[words[0]])
        answer = ANSWERS[words[0]]
        return answer(self._sheet, *values)
