"""The whole program: what two modules say of the same thing agrees."""

import unittest
from itertools import permutations
from random import Random

from dittorows import groups, orders, pages, removals, repairs
from dittorows.console import Console
from dittorows.errors import InvalidPage
from dittorows.objects import Printed
from dittorows.sheets import Sheet
from dittorows.texts import format_order, format_rows, parse_order, parse_rows
from tests import samples
from tests.models import random_page
from tests.samples import PAGE

SOME = samples.small_pages()[::6] + [PAGE]


def large_pages():
    return [samples.long_page()] + [random_page(Random(seed)) for seed in range(40)]


def sheet_in(page, order):
    """A sheet whose rows are brought into an order by moves."""
    sheet = Sheet(page)
    standing = list(range(len(page)))
    for place, row in enumerate(order):
        at = standing.index(row)
        sheet.move(at, at, place)
        standing.insert(place, standing.pop(at))
    return sheet


def orders_to_try(page):
    """All orders of a page of a few rows, some of a long one."""
    if len(page) < 5:
        return list(permutations(range(len(page))))
    numbers = list(range(len(page)))
    found = [tuple(numbers), tuple(numbers[::-1]), orders.nth_order(page, 0),
             orders.nth_order(page, orders.count_orders(page) - 1)]
    for seed in range(4):
        Random(seed).shuffle(numbers)
        found.append(tuple(numbers))
    return found


def console_of(rows):
    """A console with a sheet of these rows, which need be no page and have two cells at least."""
    console = Console()
    # a page begins with a row without blanks: one more, which is removed again
    first = ("z",) * len(rows[0])
    console.execute(" ".join(["page"] + format_rows((first,) + rows).split("\n")))
    console.execute("remove 0")
    return console


class SheetsAndFunctionsTest(unittest.TestCase):

    def test_rows_in_all_orders(self):
        for page in SOME + large_pages():
            table = pages.filled(page)
            for order in orders_to_try(page):
                sheet = sheet_in(page, order)
                self.assertEqual(sheet.cells_now, tuple(page[row] for row in order))
                self.assertEqual(sheet.read_now, orders.read_in(page, order))
                self.assertEqual(sheet.true_now, [table[row] for row in order])
                self.assertEqual(sorted(order[row] for row in sheet.wrong()), orders.wrong_rows(page, order))
                self.assertIs(sheet.wrong() == [], orders.keeps(page, order))
                self.assertEqual(sheet.repair(), repairs.fewest_to_write(page, order))
                self.assertEqual(sheet.cells_now, repairs.written(page, order))
                self.assertEqual((sheet.wrong(), tuple(sheet.true_now)), ([], pages.filled(sheet.cells_now)))
                one = Printed(page)(order)
                self.assertEqual((one.rows, one.table), (sheet.cells_now, tuple(sheet.true_now)))
                self.assertEqual(one, Printed(one.table))

    def test_cells_that_a_repair_writes_one_row_at_a_time(self):
        for page in SOME:
            for order in orders_to_try(page):
                repaired, written = sheet_in(page, order), sheet_in(page, order)
                repaired.repair()
                for row, number in repairs.shown_in(page, order):
                    at = order.index(row)
                    written.write(at, pages.blanks_of(page)[row] - number)
                self.assertEqual(written, repaired)

    def test_rows_that_are_removed(self):
        for page in SOME:
            for stays in samples.all_stays(len(page)):
                sheet = Sheet(page)
                for row in range(len(page))[::-1]:
                    if row not in stays:
                        self.assertEqual(sheet.remove(row), pages.filled(page)[row])
                self.assertEqual(sheet.cells_now, tuple(page[row] for row in stays))
                self.assertIs(sheet.wrong() == [], removals.is_safe(page, stays))

    def test_a_page_put_together_row_by_row(self):
        for page in SOME + large_pages():
            sheet = Sheet(page[:1])
            for place in range(1, len(page)):
                sheet.insert(place, page[place])
            self.assertEqual(sheet, Sheet(page))
            self.assertEqual(sheet.true_now, list(Printed(page).table))

    def test_a_sheet_with_all_cells_written(self):
        for page in SOME:
            sheet = Sheet(page)
            for row in range(len(page)):
                sheet.write(row, 0)
            self.assertEqual(sheet.cells_now, pages.filled(page))
            self.assertEqual(sheet, Sheet(Printed(page).table))

    def test_an_adopted_sheet_is_that_of_its_page(self):
        for page in SOME:
            for order in orders_to_try(page):
                sheet = sheet_in(page, order)
                if pages.is_page(sheet.cells_now):
                    rows = sheet.wrong()
                    self.assertEqual(sheet.adopt(), rows)
                    self.assertEqual(sheet, Sheet(sheet.cells_now))
                    self.assertEqual(tuple(sheet.true_now), pages.filled(sheet.cells_now))


class ObjectsAndFunctionsTest(unittest.TestCase):

    def test_objects_and_pages(self):
        for page in SOME + large_pages():
            one = Printed(page)
            self.assertEqual((one.rows, one.table), (page, pages.filled(page)))
            self.assertEqual(one, Printed(pages.printed(one.table)))
            self.assertEqual(one, Printed(pages.nth_page(one.table, 0)))
            self.assertEqual(one, Printed(tuple(Sheet(page).true_now)))
            self.assertEqual([one[row] for row in range(len(one))], list(one.table))
            self.assertTrue(all(row in one for row in one.table))

    def test_sums_and_sheets(self):
        for page in SOME:
            if len(page) < 4:
                both = Printed(page) + Printed(PAGE[:1] if len(page[0]) == 3 else page)
                sheet = Sheet(page)
                for cells in both.rows[len(page):]:
                    sheet.insert(len(sheet), cells)
                self.assertEqual((sheet.cells_now, tuple(sheet.true_now)), (both.rows, both.table))

    def test_an_order_that_keeps_the_page_writes_nothing(self):
        for page in SOME + large_pages():
            order = orders.nth_order(page, orders.count_orders(page) // 2)
            self.assertEqual(Printed(page)(order).rows, tuple(page[row] for row in order))


class TextsTest(unittest.TestCase):

    def test_pages_and_sheets_are_read_back(self):
        for page in SOME + large_pages():
            self.assertEqual(parse_rows(format_rows(page)), page)
            self.assertEqual(parse_rows(format_rows(pages.filled(page))), pages.filled(page))
            sheet = Sheet(page)
            sheet.move(0, 0, len(page) - 1)
            self.assertEqual(parse_rows(format_rows(sheet.cells_now)), sheet.cells_now)

    def test_orders_are_read_back(self):
        for page in SOME + large_pages():
            for order in orders_to_try(page):
                self.assertEqual(parse_order(format_order(order)), order)
            table = pages.filled(page)
            self.assertIs(groups.is_grouped(table, parse_order(format_order(groups.nth_grouped(table, 0)))), True)


class ConsoleAndFunctionsTest(unittest.TestCase):

    def test_questions_about_a_sheet(self):
        for page in SOME + large_pages():
            for order in orders_to_try(page)[:6]:
                sheet = sheet_in(page, order)
                if len(page[0]) == 1 or len(page) == 60:
                    continue
                rows = sheet.cells_now
                console = console_of(rows)
                self.assertEqual(parse_rows(console.execute("rows").replace(" ", "\n")), rows)
                self.assertEqual(console.execute("read").replace("?", "").replace(" ", "\n"), "\n".join(
                    ",".join(cell or "" for cell in row) for row in sheet.read_now))
                if pages.is_page(rows):
                    self.assertEqual(console.execute("orders"), str(orders.count_orders(rows)))
                    self.assertEqual(console.execute("fewest"), str(groups.fewest_cells(pages.filled(rows))))
                    for column in range(len(rows[0])):
                        self.assertEqual(parse_order(console.execute(f"sort {column}")), orders.sort_order(rows, column))
                else:
                    for line in ("orders", "sort 0", "sort 99"):
                        with self.assertRaises(InvalidPage):
                            console.execute(line)

    def test_fewest_is_that_of_the_true_rows_in_any_order(self):
        for page in large_pages():
            if len(page[0]) > 1:
                console = Console()
                console.execute(" ".join(["page"] + format_rows(page).split("\n")))
                fewest = groups.fewest_cells(pages.filled(page))
                self.assertEqual(console.execute("fewest"), str(fewest))
                console.execute(f"move 0 0 {len(page) - 1}")
                self.assertEqual(console.execute("fewest"), str(fewest))
                self.assertEqual(pages.cells_of(pages.printed(groups.grouped(pages.filled(page)))), fewest)

    def test_repair_and_adopt_answer_what_a_sheet_returns(self):
        for page in SOME:
            if len(page[0]) > 1:
                for order in orders_to_try(page)[-3:]:
                    console, sheet = Console(), sheet_in(page, order)
                    console.execute(" ".join(["page"] + format_rows(page).split("\n")))
                    standing = list(range(len(page)))
                    for place, row in enumerate(order):
                        at = standing.index(row)
                        console.execute(f"move {at} {at} {place}")
                        standing.insert(place, standing.pop(at))
                    self.assertEqual(console.execute("wrong"), " ".join(map(str, sheet.wrong())) or ".")
                    self.assertEqual(console.execute("repair"), str(repairs.fewest_to_write(page, order)))
                    self.assertEqual(console.execute("adopt"), ".")
                    self.assertEqual(console.execute("rows"), format_rows(repairs.written(page, order)).replace("\n", " "))


if __name__ == "__main__":
    unittest.main()
