"""A sheet worked out by itself, operation by operation, and operations by chance (with a fixed seed)."""

from dittorows.errors import (InvalidCells, InvalidCount, InvalidPlace, InvalidRow, Loose, NothingToUndo, TooFew,
                              TooMany)
from tests import samples

VALUES = ("a", "b", "x", "y", "12345678")


def is_whole(value, low, high):
    return type(value) is int and low <= value <= high


class Model:
    """Rows as pairs of the printed cells and the true values; each operation keeps a copy of all rows."""

    def __init__(self, page):
        self.rows = list(zip(page, samples.meaning(page)))
        self.kept = []

    def cells(self):
        return tuple(cells for cells, _ in self.rows)

    def true(self):
        return [true for _, true in self.rows]

    def read(self):
        return samples.meaning(self.cells())

    def wrong(self):
        return [row for row, (read, true) in enumerate(zip(self.read(), self.true())) if read != true]

    def copy_of(self):
        twin = Model((("a",),))
        twin.rows = list(self.rows)
        twin.kept = list(self.kept)
        return twin

    def do(self, name, arguments):
        """Do what an operation does that raises nothing, and return what it returns."""
        if name == "undo":
            self.rows = list(self.kept.pop())
            return None
        self.kept.append(list(self.rows))
        return getattr(self, name)(*arguments)

    def move(self, first, last, place):
        taken = [self.rows.pop(first) for _ in range(first, last + 1)]
        for row in reversed(taken):
            self.rows.insert(place, row)

    def remove(self, row):
        return self.rows.pop(row)[1]

    def insert(self, place, cells):
        self.rows.insert(place, (cells, None))
        self.rows[place] = (cells, self.read()[place])

    def write(self, row, count):
        cells, true = self.rows[row]
        self.rows[row] = (tuple(None if at < count else value for at, value in enumerate(true)), true)

    def adopt(self):
        rows = self.wrong()
        self.rows = list(zip(self.cells(), self.read()))
        return rows

    def repair(self):
        count = 0
        for row, (cells, true) in enumerate(self.rows):
            may = samples.common(self.rows[row - 1][1], true) if row > 0 else 0
            while self.rows[row][0].count(None) > may:
                blanks = self.rows[row][0].count(None) - 1
                self.rows[row] = ((None,) * blanks + true[blanks:], true)
                count += 1
        return count

    def error_of(self, name, arguments):
        """Which error an operation raises now, None if it raises none."""
        return getattr(self, "error_of_" + name)(*arguments)

    def error_of_move(self, first, last, place):
        if not is_whole(first, 0, len(self.rows) - 1):
            return InvalidRow
        if not is_whole(last, first, len(self.rows) - 1):
            return InvalidRow
        return None if is_whole(place, 0, len(self.rows) - 1 - last + first) else InvalidPlace

    def error_of_remove(self, row):
        if not is_whole(row, 0, len(self.rows) - 1):
            return InvalidRow
        return TooFew if len(self.rows) == 1 else None

    def error_of_insert(self, place, cells):
        if not is_whole(place, 0, len(self.rows)):
            return InvalidPlace
        if type(cells) is not tuple or len(cells) != len(self.rows[0][0]):
            return InvalidCells
        blanks = cells.count(None)
        if cells[:blanks] != (None,) * blanks or any(value not in VALUES for value in cells[blanks:]):
            return InvalidCells
        if len(self.rows) == 60:
            return TooMany
        above = self.read()[place - 1] if place > 0 else (None,) * len(cells)
        return Loose if None in above[:blanks] else None

    def error_of_write(self, row, count):
        if not is_whole(row, 0, len(self.rows) - 1):
            return InvalidRow
        return None if is_whole(count, 0, self.rows[row][0].count(None)) else InvalidCount

    def error_of_adopt(self):
        return Loose if any(None in row for row in self.read()) else None

    def error_of_repair(self):
        return None

    def error_of_undo(self):
        return None if self.kept else NothingToUndo


def random_page(chance):
    """A page of few values, so that rows share some, with as many blanks as fall to it."""
    many = chance.choice((1, 2, 3, 5, 8, 12, 57, 60))
    width = chance.choice((1, 2, 3, 6))
    table = [tuple(chance.choice(VALUES[:2]) for _ in range(width)) for _ in range(many)]
    page = [table[0]]
    for above, row in zip(table, table[1:]):
        blanks = chance.randrange(samples.common(above, row) + 1)
        page.append((None,) * blanks + row[blanks:])
    return tuple(page)


def random_cells(chance, width):
    """A printed row of this width, sometimes one cell longer or shorter, or with a wrong value."""
    width += chance.choice((0, 0, 0, 0, 0, 0, 0, 0, -1, 1))
    blanks = chance.randrange(width + 1)
    values = VALUES if chance.randrange(12) else VALUES + ("A", "abcdefghi")
    return (None,) * blanks + tuple(chance.choice(values) for _ in range(width - blanks))


def random_step(chance, model):
    """An operation, seldom one that raises an error."""
    most = len(model.rows)
    name = chance.choice(("move", "move", "move", "remove", "insert", "insert", "write", "write", "adopt", "repair"))
    if name == "move":
        first = chance.randrange(most + 1) - (most > 1)
        last = first + chance.randrange(3)
        return name, (first, last, chance.randrange(max(2, most - last + first + 1)))
    if name == "remove":
        return name, (chance.randrange(-1, most + 1),)
    if name == "insert":
        return name, (chance.randrange(most + 2), random_cells(chance, len(model.rows[0][0])))
    if name == "write":
        row = chance.randrange(most)
        return name, (row, chance.randrange(model.rows[row][0].count(None) + 2))
    return name, ()
