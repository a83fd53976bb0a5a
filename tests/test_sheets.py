"""[18]: sheets that change, know what is wrong, and are repaired."""

import unittest
from itertools import product
from random import Random

from dittorows.errors import (InvalidCells, InvalidCount, InvalidPage, InvalidPlace, InvalidRow, Loose,
                              NothingToUndo, TooFew, TooMany)
from dittorows.objects import Printed
from dittorows.sheets import Sheet
from tests import samples
from tests.models import Model, random_page, random_step
from tests.samples import PAGE, TABLE

SIXTY = samples.long_page()
ABC = (("a", "x"), (None, "y"), ("b", "x"))


def state(sheet):
    return sheet.cells_now, sheet.read_now, sheet.true_now, sheet.wrong(), len(sheet)


class SheetCase(unittest.TestCase):

    def assert_like(self, sheet, model):
        """Compare all that a sheet tells with what the model works out by itself."""
        self.assertEqual(sheet.cells_now, model.cells())
        self.assertEqual(sheet.read_now, model.read())
        self.assertEqual(sheet.true_now, model.true())
        self.assertEqual(sheet.wrong(), model.wrong())
        self.assertEqual(len(sheet), len(model.rows))

    def assert_raises(self, error, sheet, method, *arguments):
        """A call that raises changes nothing and adds nothing to undo."""
        before = state(sheet)
        twin = sheet.copy_of()
        with self.assertRaises(error) as caught:
            getattr(sheet, method)(*arguments)
        self.assertIs(type(caught.exception), error)
        self.assertEqual(state(sheet), before)
        self.assertEqual(undone(sheet.copy_of()), undone(twin))


def undone(sheet):
    """All that a sheet tells, behind each undo until there is nothing to undo."""
    found = []
    while True:
        found.append(state(sheet))
        try:
            sheet.undo()
        except NothingToUndo:
            return found


class NewSheetTest(SheetCase):

    def test_what_the_rows_mean_is_true_at_first(self):
        for page in samples.small_pages() + [SIXTY] + list(samples.WITH_BLANKS + samples.WITHOUT_BLANKS):
            sheet = Sheet(page)
            table = samples.meaning(page)
            self.assertEqual(state(sheet), (page, table, table, [], len(page)))
            with self.assertRaises(NothingToUndo):
                sheet.undo()

    def test_kinds(self):
        sheet = Sheet(PAGE)
        self.assertEqual([type(value) for value in state(sheet)], [tuple, list, list, list, int])
        self.assertEqual({type(row) for value in state(sheet)[:3] for row in value}, {tuple})

    def test_lists_are_new_ones(self):
        sheet = Sheet(PAGE)
        sheet.move(3, 3, 4)
        before = state(sheet)
        for ask in (lambda: sheet.read_now, lambda: sheet.true_now, sheet.wrong, lambda: sheet.copy_of().adopt()):
            kept = ask()
            self.assertIsNot(ask(), kept)
            kept.append(("z", "z", "z"))
            kept[0] = None
            self.assertEqual(state(sheet), before)

    def test_properties_are_not_set(self):
        sheet = Sheet(PAGE)
        for name in ("cells_now", "read_now", "true_now"):
            with self.assertRaises(AttributeError):
                setattr(sheet, name, TABLE)
        self.assertEqual(sheet, Sheet(PAGE))

    def test_any_other_value_is_no_page(self):
        for value in samples.NO_ROWS + samples.BLANKS_FIRST + (Sheet(PAGE), Printed(PAGE), list(PAGE), Sheet):
            with self.subTest(repr(value)[:80]), self.assertRaises(InvalidPage):
                Sheet(value)


class MoveTest(SheetCase):

    def test_all_moves_on_small_sheets(self):
        for page in samples.small_pages()[::5] + [PAGE]:
            many = len(page)
            for first, last, place in product(range(many), repeat=3):
                if first <= last and place <= many - (last - first + 1):
                    sheet, model = Sheet(page), Model(page)
                    self.assertIsNone(sheet.move(first, last, place))
                    model.move(first, last, place)
                    self.assert_like(sheet, model)
                    self.assertIsNone(sheet.undo())
                    self.assertEqual(state(sheet), state(Sheet(page)))

    def test_to_where_it_is_to_the_front_and_behind_all_others(self):
        sheet = Sheet(PAGE)
        sheet.move(1, 2, 1)
        self.assertEqual((sheet.cells_now, sheet.wrong()), (PAGE, []))
        sheet.move(1, 2, 0)
        self.assertEqual((sheet.cells_now, sheet.wrong()), ((PAGE[1], PAGE[2], PAGE[0], PAGE[3], PAGE[4]), [0, 1]))
        self.assertEqual(sheet.read_now[:2], [(None, None, "2"), (None, None, "3")])
        sheet.move(0, 1, 3)
        self.assertEqual((sheet.cells_now, sheet.wrong()), ((PAGE[0], PAGE[3], PAGE[4], PAGE[1], PAGE[2]), [3, 4]))
        self.assertEqual(sheet.true_now, [TABLE[0], TABLE[3], TABLE[4], TABLE[1], TABLE[2]])
        for _ in range(3):
            sheet.undo()
        self.assertEqual(sheet, Sheet(PAGE))
        self.assert_raises(NothingToUndo, sheet, "undo")

    def test_all_rows_move_to_place_zero_only(self):
        for page in (PAGE, (("a",),), SIXTY):
            sheet = Sheet(page)
            sheet.move(0, len(page) - 1, 0)
            self.assertEqual(state(sheet), state(Sheet(page)))
            self.assert_raises(InvalidPlace, sheet, "move", 0, len(page) - 1, 1)

    def test_sixty_rows(self):
        sheet, model = Sheet(SIXTY), Model(SIXTY)
        for first, last, place in ((0, 0, 59), (10, 40, 0), (10, 40, 29), (59, 59, 0), (0, 58, 1), (30, 30, 30)):
            sheet.move(first, last, place)
            model.move(first, last, place)
            self.assert_like(sheet, model)

    def test_wrong_arguments(self):
        sheet = Sheet(PAGE)
        for wrong in samples.no_numbers_of(5) + (sheet,):
            self.assert_raises(InvalidRow, sheet, "move", wrong, wrong, wrong)
            self.assert_raises(InvalidRow, sheet, "move", wrong, 4, 0)
            self.assert_raises(InvalidRow, sheet, "move", 0, wrong, 0)
            self.assert_raises(InvalidRow, sheet, "move", 0, wrong, wrong)
        for first, last in ((1, 0), (4, 0), (4, 3), (2, 1)):
            self.assert_raises(InvalidRow, sheet, "move", first, last, 0)
            self.assert_raises(InvalidRow, sheet, "move", first, last, None)
        for first, last in ((0, 0), (1, 3), (0, 4), (4, 4)):
            others = 5 - (last - first + 1)
            for wrong in samples.no_numbers_of(others + 1):
                self.assert_raises(InvalidPlace, sheet, "move", first, last, wrong)


class RemoveTest(SheetCase):

    def test_all_rows_of_small_sheets(self):
        for page in samples.small_pages()[::5] + [PAGE, SIXTY]:
            for row in range(len(page)):
                sheet, model = Sheet(page), Model(page)
                if len(page) == 1:
                    self.assert_raises(TooFew, sheet, "remove", 0)
                else:
                    self.assertEqual(sheet.remove(row), samples.meaning(page)[row])
                    model.remove(row)
                    self.assert_like(sheet, model)
                    sheet.undo()
                    self.assertEqual(state(sheet), state(Sheet(page)))

    def test_the_true_full_row_of_a_wrong_row(self):
        sheet = Sheet(ABC)
        sheet.move(1, 1, 2)
        self.assertEqual((sheet.wrong(), sheet.read_now[2]), ([2], ("b", "y")))
        self.assertEqual(sheet.remove(2), ("a", "y"))
        self.assertEqual(state(sheet), (ABC[::2], list(ABC[::2]), list(ABC[::2]), [], 2))

    def test_until_one_row_is_left(self):
        sheet = Sheet(SIXTY)
        for many in range(59, 0, -1):
            self.assertEqual(sheet.remove(0), samples.meaning(SIXTY)[59 - many])
            self.assertEqual((len(sheet), sheet.cells_now), (many, SIXTY[60 - many:]))
        self.assert_raises(TooFew, sheet, "remove", 0)
        self.assertEqual(len(undone(sheet)), 60)
        self.assertEqual(sheet, Sheet(SIXTY))

    def test_wrong_arguments(self):
        for page in (PAGE, SIXTY, (("a",),)):
            for wrong in samples.no_numbers_of(len(page)):
                self.assert_raises(InvalidRow, Sheet(page), "remove", wrong)


class InsertTest(SheetCase):

    def test_all_places_and_rows_of_small_sheets(self):
        for page in samples.small_pages()[::7] + [PAGE]:
            width = len(page[0])
            some = [(None,) * blanks + ("c",) * (width - blanks) for blanks in range(width + 1)]
            for place, cells in product(range(len(page) + 1), some):
                sheet, model = Sheet(page), Model(page)
                if place == 0 and cells[0] is None:
                    self.assert_raises(Loose, sheet, "insert", place, cells)
                else:
                    self.assertIsNone(sheet.insert(place, cells))
                    model.insert(place, cells)
                    self.assert_like(sheet, model)
                    self.assertEqual((sheet.cells_now[place], sheet.true_now[place]), (cells, sheet.read_now[place]))
                    sheet.undo()
                    self.assertEqual(state(sheet), state(Sheet(page)))

    def test_rows_behind_can_become_wrong(self):
        sheet = Sheet(ABC)
        sheet.insert(1, ("c", "z"))
        self.assertEqual((sheet.wrong(), sheet.read_now[2], sheet.true_now[2]), ([2], ("c", "y"), ("a", "y")))
        sheet.insert(3, (None, None))
        self.assertEqual((sheet.true_now[3], sheet.wrong()), (("c", "y"), [2]))

    def test_a_row_of_blanks_alone(self):
        sheet = Sheet(ABC)
        self.assert_raises(Loose, sheet, "insert", 0, (None, None))
        sheet.insert(3, (None, None))
        self.assertEqual((sheet.true_now[3], sheet.wrong(), len(sheet)), (("b", "x"), [], 4))
        six = Sheet((("a",) * 6,))
        six.insert(1, (None,) * 6)
        self.assertEqual(six.true_now, [("a",) * 6] * 2)
        one = Sheet((("a",),))
        self.assert_raises(Loose, one, "insert", 0, (None,))
        one.insert(1, (None,))
        self.assertEqual(one.true_now, [("a",)] * 2)

    def test_a_blank_means_nothing_behind_a_row_that_begins_with_one(self):
        sheet = Sheet((("a", "x", "1"), (None, "y", "1"), ("b", "x", "1")))
        sheet.move(0, 0, 2)
        self.assertEqual(sheet.read_now[0], (None, "y", "1"))
        for place, cells in ((0, (None, "y", "1")), (1, (None, "y", "1")), (1, (None, None, None)), (1, (None, None, "2"))):
            self.assert_raises(Loose, sheet, "insert", place, cells)
        sheet.insert(1, ("c", "z", "1"))
        sheet.insert(2, (None, None, "2"))
        self.assertEqual((sheet.true_now[2], sheet.wrong()), (("c", "z", "2"), [0]))

    def test_rows_that_are_read_on_a_wrong_row(self):
        sheet = Sheet(ABC)
        sheet.move(1, 1, 2)
        sheet.insert(3, (None, "z"))
        self.assertEqual((sheet.true_now[2:], sheet.read_now[2:]), ([("a", "y"), ("b", "z")], [("b", "y"), ("b", "z")]))
        self.assertEqual(sheet.wrong(), [2])

    def test_just_sixty_rows_and_one_more(self):
        sheet = Sheet(SIXTY[:59])
        sheet.insert(59, SIXTY[59])
        self.assertEqual(state(sheet), state(Sheet(SIXTY)))
        for place in (0, 1, 60):
            self.assert_raises(TooMany, sheet, "insert", place, ("a", "b", "c", "d"))
        sheet.remove(30)
        sheet.insert(0, ("a", "b", "c", "d"))
        self.assertEqual((len(sheet), sheet.true_now[0]), (60, ("a", "b", "c", "d")))

    def test_wrong_arguments_and_which_error_comes_first(self):
        sheet, full = Sheet(ABC), Sheet((("a", "b"),) * 60)
        for wrong in samples.no_numbers_of(4):
            for cells in (("a", "b"), None, (None, None), ("a",)):
                self.assert_raises(InvalidPlace, sheet, "insert", wrong, cells)
        for wrong in samples.no_numbers_of(61)[:20] + (61, 62, 10 ** 99):
            self.assert_raises(InvalidPlace, full, "insert", wrong, None)
        for wrong in samples.NO_CELLS:
            for place in (0, 1, 3):
                self.assert_raises(InvalidCells, sheet, "insert", place, wrong)
                self.assert_raises(InvalidCells, full, "insert", place, wrong)
        self.assert_raises(TooMany, full, "insert", 0, (None, None))
        self.assert_raises(TooMany, full, "insert", 0, (None, "b"))

    def test_each_width(self):
        for width, other in product(range(1, 7), range(0, 9)):
            sheet = Sheet((("a",) * width,))
            for cells in (("b",) * other, (None,) * other):
                if width == other:
                    sheet.insert(1, cells)
                    self.assertEqual(sheet.cells_now[1], cells)
                else:
                    self.assert_raises(InvalidCells, sheet, "insert", 1, cells)


class WriteTest(SheetCase):

    def test_all_counts_on_small_sheets(self):
        for page in samples.small_pages()[::3] + [PAGE, SIXTY]:
            for row, cells in enumerate(page):
                for count in range(cells.count(None) + 1):
                    sheet, model = Sheet(page), Model(page)
                    self.assertIsNone(sheet.write(row, count))
                    model.write(row, count)
                    self.assert_like(sheet, model)
                    self.assertEqual(sheet.cells_now[row].count(None), count)
                    self.assertEqual(sheet.wrong(), [])
                    sheet.undo()
                    self.assertEqual(state(sheet), state(Sheet(page)))

    def test_true_values_are_written_into_a_wrong_row(self):
        sheet = Sheet((("a", "b", "c"), (None, None, "d"), ("e", "f", "g")))
        sheet.move(1, 1, 2)
        self.assertEqual(sheet.read_now[2], ("e", "f", "d"))
        sheet.write(2, 1)
        self.assertEqual((sheet.cells_now[2], sheet.read_now[2], sheet.wrong()), ((None, "b", "d"), ("e", "b", "d"), [2]))
        sheet.write(2, 0)
        self.assertEqual((sheet.cells_now[2], sheet.wrong()), (("a", "b", "d"), []))
        sheet.write(2, 0)
        self.assert_raises(InvalidCount, sheet, "write", 2, 1)
        sheet.undo()
        self.assertEqual(sheet.cells_now[2], ("a", "b", "d"))
        sheet.undo()
        self.assertEqual(sheet.cells_now[2], (None, "b", "d"))

    def test_a_row_of_blanks_alone(self):
        page = (("a", "b", "c", "d", "e", "f"), (None,) * 6)
        for count in range(7):
            sheet = Sheet(page)
            sheet.write(1, count)
            self.assertEqual(sheet.cells_now[1], (None,) * count + page[0][count:])
            self.assertEqual((sheet.wrong(), sheet.true_now), ([], [page[0]] * 2))

    def test_a_count_of_all_blanks_changes_nothing_but_is_undone(self):
        sheet = Sheet(PAGE)
        sheet.write(1, 0)
        sheet.write(2, 2)
        self.assertEqual(sheet.cells_now, (PAGE[0], TABLE[1]) + PAGE[2:])
        sheet.undo()
        self.assertEqual(sheet.cells_now, (PAGE[0], TABLE[1]) + PAGE[2:])
        sheet.undo()
        self.assertEqual(sheet.cells_now, PAGE)

    def test_wrong_arguments_and_which_error_comes_first(self):
        sheet = Sheet(PAGE)
        for wrong in samples.no_numbers_of(5):
            for count in (0, 9, None):
                self.assert_raises(InvalidRow, sheet, "write", wrong, count)
        for row, blanks in enumerate((0, 2, 2, 1, 0)):
            for wrong in samples.no_numbers_of(blanks + 1):
                self.assert_raises(InvalidCount, sheet, "write", row, wrong)


class AdoptTest(SheetCase):

    def test_what_is_read_becomes_true(self):
        sheet = Sheet(ABC)
        sheet.move(1, 1, 2)
        self.assertEqual(sheet.adopt(), [2])
        self.assertEqual(state(sheet), (
            (ABC[0], ABC[2], ABC[1]), [("a", "x"), ("b", "x"), ("b", "y")], [("a", "x"), ("b", "x"), ("b", "y")], [], 3))
        self.assertEqual(sheet.adopt(), [])
        sheet.undo()
        self.assertEqual((sheet.wrong(), sheet.true_now[2]), ([], ("b", "y")))
        sheet.undo()
        self.assertEqual((sheet.wrong(), sheet.true_now[2]), ([2], ("a", "y")))

    def test_all_orders_of_three_rows(self):
        for page in [page for page in samples.small_pages() if len(page) == 3][::4]:
            for moves in product(((0, 0, 1), (0, 0, 2), (1, 1, 2), (2, 2, 0)), repeat=2):
                sheet, model = Sheet(page), Model(page)
                for move in moves:
                    sheet.move(*move)
                    model.move(*move)
                if sheet.cells_now[0][0] is None:
                    self.assert_raises(Loose, sheet, "adopt")
                else:
                    self.assertEqual(sheet.adopt(), model.adopt())
                    self.assert_like(sheet, model)
                    self.assertEqual(sheet, Sheet(sheet.cells_now))

    def test_a_cell_that_means_nothing(self):
        sheet = Sheet(ABC)
        sheet.move(1, 1, 0)
        self.assert_raises(Loose, sheet, "adopt")
        sheet.write(0, 0)
        self.assertEqual(sheet.adopt(), [])

    def test_a_sheet_where_nothing_is_wrong(self):
        for page in (PAGE, SIXTY, (("a",),)):
            sheet = Sheet(page)
            self.assertEqual(sheet.adopt(), [])
            self.assertEqual(state(sheet), state(Sheet(page)))
            sheet.undo()
            self.assert_raises(NothingToUndo, sheet, "undo")


class RepairTest(SheetCase):

    def test_the_fewest_cells_found_by_trying_all_ways(self):
        for page in [page for page in samples.small_pages() if len(page) <= 4][::3] + [PAGE]:
            for first, place in product(range(len(page)), repeat=2):
                sheet = Sheet(page)
                sheet.move(first, first, place)
                cells, true = sheet.cells_now, sheet.true_now
                ways = [tuple((None,) * blanks + row[blanks:] for blanks, row in zip(counts, true))
                        for counts in product(*[range(row.count(None) + 1) for row in cells])]
                right = [way for way in ways if samples.meaning(way) == true]
                most = max(sum(row.count(None) for row in way) for way in right)
                best = [way for way in right if sum(row.count(None) for row in way) == most]
                self.assertEqual(len(best), 1)
                self.assertEqual(sheet.repair(), sum(row.count(None) for row in cells) - most)
                self.assertEqual(state(sheet), (best[0], true, true, [], len(page)))
                self.assertEqual(sheet.repair(), 0)
                sheet.undo()
                sheet.undo()
                self.assertEqual((sheet.cells_now, sheet.true_now), (cells, true))

    def test_all_blanks_of_the_first_row(self):
        sheet = Sheet((("a", "b"), (None, None)))
        sheet.move(1, 1, 0)
        self.assertEqual(sheet.repair(), 2)
        self.assertEqual(sheet.cells_now, (("a", "b"), ("a", "b")))

    def test_a_blank_that_is_right_by_chance_ahead_of_the_repair(self):
        # row 2 reads the true value of its first cell only as long as row 1 is wrong
        sheet = Sheet((("a", "x"), (None, "y"), ("b", "x"), (None, "z")))
        sheet.move(1, 1, 2)
        self.assertEqual((sheet.wrong(), sheet.read_now[3]), ([2], ("b", "z")))
        self.assertEqual(sheet.repair(), 2)
        self.assertEqual(sheet.cells_now, (("a", "x"), ("b", "x"), ("a", "y"), ("b", "z")))

    def test_sixty_equal_rows(self):
        sheet = Sheet((("a",) * 6,) + ((None,) * 6,) * 59)
        sheet.move(0, 0, 59)
        self.assertEqual(sheet.wrong(), list(range(59)))
        self.assertEqual(sheet.repair(), 6)
        self.assertEqual((sheet.cells_now, sheet.wrong()), ((("a",) * 6,) + ((None,) * 6,) * 58 + (("a",) * 6,), []))

    def test_a_sheet_where_nothing_is_wrong(self):
        for page in (PAGE, SIXTY, (("a",),)):
            sheet = Sheet(page)
            self.assertEqual(sheet.repair(), 0)
            self.assertEqual(state(sheet), state(Sheet(page)))
            sheet.undo()
            self.assert_raises(NothingToUndo, sheet, "undo")

    def test_adopted_rows_are_repaired_by_what_they_mean_then(self):
        sheet = Sheet(ABC)
        sheet.move(1, 1, 2)
        sheet.adopt()
        sheet.move(2, 2, 1)
        self.assertEqual((sheet.repair(), sheet.cells_now[1]), (1, ("b", "y")))


class WrongTest(SheetCase):

    def test_a_row_that_means_nothing_is_wrong(self):
        sheet = Sheet(ABC)
        sheet.remove(0)
        self.assertEqual((sheet.wrong(), sheet.read_now), ([0], [(None, "y"), ("b", "x")]))
        self.assertEqual(sheet.true_now, [("a", "y"), ("b", "x")])

    def test_a_row_that_reads_the_same_elsewhere_is_not_wrong(self):
        sheet = Sheet((("a", "x"), (None, "y"), ("a", "z"), ("b", "x")))
        sheet.move(1, 1, 2)
        self.assertEqual((sheet.wrong(), sheet.read_now), ([], [("a", "x"), ("a", "z"), ("a", "y"), ("b", "x")]))

    def test_asking_is_no_operation(self):
        sheet = Sheet(ABC)
        state(sheet)
        self.assertIs(sheet == Sheet(ABC), True)
        sheet.copy_of()
        self.assert_raises(NothingToUndo, sheet, "undo")


class EqualTest(SheetCase):

    def test_printed_and_true_rows_count(self):
        self.assertIs(Sheet(ABC) == Sheet(ABC), True)
        self.assertIs(Sheet(ABC) != Sheet(ABC), False)
        self.assertIs(Sheet(PAGE) == Sheet(TABLE), False)
        self.assertIs(Sheet(PAGE) != Sheet(TABLE), True)
        one, other = Sheet(ABC), Sheet(ABC)
        for sheet in (one, other):
            sheet.move(1, 1, 2)
        other.adopt()
        self.assertEqual((one.cells_now, one.read_now), (other.cells_now, other.read_now))
        self.assertIs(one == other, False)
        other.undo()
        self.assertIs(one == other, True)

    def test_operations_to_undo_do_not_count(self):
        one = Sheet(ABC)
        one.repair()
        one.write(1, 1)
        self.assertIs(one == Sheet(ABC), True)
        self.assertIs(Sheet(ABC) == one, True)

    def test_all_pairs_of_small_pages(self):
        some = samples.small_pages()[::13]
        for page, other in product(some, some):
            self.assertIs(Sheet(page) == Sheet(other), page == other)
            self.assertIs(Sheet(page) != Sheet(other), page != other)

    def test_nothing_else_is_equal(self):
        for value in samples.NO_ROWS + (TABLE, PAGE, list(TABLE), Printed(TABLE), Sheet):
            self.assertIs(Sheet(TABLE) == value, False)
            self.assertIs(value == Sheet(TABLE), False)
            self.assertIs(Sheet(TABLE) != value, True)


class CopyTest(SheetCase):

    def test_a_copy_goes_its_own_way(self):
        sheet = Sheet(ABC)
        sheet.move(0, 0, 2)
        twin = sheet.copy_of()
        self.assertIs(type(twin), Sheet)
        self.assertIsNot(twin, sheet)
        self.assertIs(twin == sheet, True)
        self.assertEqual(state(twin), state(sheet))
        before = state(sheet)
        twin.repair()
        self.assertEqual(state(sheet), before)
        sheet.undo()
        self.assertEqual(state(sheet), state(Sheet(ABC)))
        self.assertEqual((twin.cells_now, twin.wrong()), ((("a", "y"), ("b", "x"), ("a", "x")), []))
        twin.undo()
        self.assertEqual(state(twin), before)
        sheet.remove(0)
        twin.undo()
        self.assertEqual(state(twin), state(Sheet(ABC)))
        self.assert_raises(NothingToUndo, twin, "undo")
        sheet.undo()
        self.assert_raises(NothingToUndo, sheet, "undo")

    def test_a_copy_has_the_same_operations_to_undo(self):
        sheet = Sheet(PAGE)
        states = [state(sheet)]
        for step in (("move", 0, 0, 4), ("repair",), ("adopt",), ("write", 1, 1), ("remove", 3), ("insert", 0, TABLE[0])):
            getattr(sheet, step[0])(*step[1:])
            states.insert(0, state(sheet))
            self.assertEqual(undone(sheet.copy_of()), states)
            self.assertEqual(undone(sheet.copy_of().copy_of()), states)
        self.assertEqual(undone(sheet), states)

    def test_a_copy_of_a_sheet_that_begins_with_blanks(self):
        sheet = Sheet((("a", "b"), (None, None)))
        sheet.move(0, 0, 1)
        twin = sheet.copy_of()
        self.assertEqual(state(twin), state(sheet))
        self.assertEqual(twin.cells_now[0], (None, None))
        twin.undo()
        self.assertEqual(twin, Sheet((("a", "b"), (None, None))))


class ManyOperationsTest(SheetCase):

    def step(self, sheet, model, step):
        """Do a step on both; where the model says that it fails, nothing may change."""
        name, arguments = step
        error = model.error_of(name, arguments)
        if error is None:
            self.assertEqual(getattr(sheet, name)(*arguments), model.do(name, arguments))
        else:
            self.assert_raises(error, sheet, name, *arguments)
        self.assert_like(sheet, model)
        return error is None

    def test_many_operations_then_all_of_them_undone(self):
        for seed in range(60):
            chance = Random(seed)
            page = random_page(chance)
            sheet, model, states = Sheet(page), Model(page), []
            twin = sheet.copy_of()
            while len(states) < 50:
                before = state(sheet)
                if self.step(sheet, model, random_step(chance, model)):
                    states.append(before)
                if len(states) == 25:
                    twin, middle = sheet.copy_of(), list(states) + [state(sheet)]
            for before in states[::-1]:
                self.assertIsNone(sheet.undo())
                self.assertEqual(state(sheet), before)
            self.assert_raises(NothingToUndo, sheet, "undo")
            self.assertEqual(sheet, Sheet(page))
            self.assertEqual(undone(twin), middle[::-1])

    def test_undo_among_other_operations(self):
        for seed in range(100, 140):
            chance = Random(seed)
            page = random_page(chance)
            sheet, model = Sheet(page), Model(page)
            for _ in range(99):
                self.step(sheet, model, ("undo", ()) if chance.randrange(4) == 0 else random_step(chance, model))

    def test_a_copy_and_its_sheet_go_their_ways(self):
        for seed in range(200, 220):
            chance = Random(seed)
            page = random_page(chance)
            pairs = [(Sheet(page), Model(page))]
            for _ in range(60):
                sheet, model = pairs[chance.randrange(len(pairs))]
                if len(pairs) < 4 and chance.randrange(10) == 0:
                    pairs.append((sheet.copy_of(), model.copy_of()))
                self.step(sheet, model, ("undo", ()) if chance.randrange(5) == 0 else random_step(chance, model))
                for other, its_model in pairs:
                    self.assert_like(other, its_model)

    def test_wrong_calls_between_operations(self):
        chance = Random(3)
        sheet, model = Sheet(PAGE), Model(PAGE)
        wrong = (("move", (None, 0, 0)), ("move", (0, True, 0)), ("move", (0, 0, [0])), ("remove", (False,)),
                 ("insert", (0, ["a", "b", "c"])), ("insert", ("0", ("a", "b", "c"))), ("write", (0, True)),
                 ("write", ((0,), 0)), ("remove", (-1,)), ("move", (-1, -1, 0)))
        for _ in range(40):
            self.step(sheet, model, random_step(chance, model))
            for name, arguments in wrong:
                self.assertIsNotNone(model.error_of(name, arguments))
                self.step(sheet, model, (name, arguments))

    def test_printed_cells_always_agree_with_true_rows(self):
        for seed in range(300, 320):
            chance = Random(seed)
            sheet, model = Sheet(SIXTY), Model(SIXTY)
            for _ in range(60):
                self.step(sheet, model, random_step(chance, model))
                for cells, true in zip(sheet.cells_now, sheet.true_now):
                    blanks = cells.count(None)
                    self.assertEqual(cells, (None,) * blanks + true[blanks:])


if __name__ == "__main__":
    unittest.main()
