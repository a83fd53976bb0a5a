"""[9], [10] (c), [14]: beginnings, and the orders in which the rows with each beginning stand together."""

import unittest
from functools import lru_cache
from itertools import permutations
from math import factorial, prod

from dittorows.errors import InvalidNumber, InvalidOrder, InvalidTable, NotGrouped
from dittorows.groups import (beginnings_of, count_grouped, fewest_cells, grouped, grouped_number, is_grouped,
                              nth_grouped)
from dittorows.pages import cells_of, filled, printed
from tests import samples

TABLE = (("a", "x"), ("b", "x"), ("a", "y"), ("a", "x"))

# Tables of six and seven rows whose groups lie within each other by their numbers.
MIXED = (
    (("b", "x"), ("a", "x"), ("b", "y"), ("a", "x"), ("b", "x"), ("a", "y"), ("c", "x")),
    (("a", "x", "1"), ("a", "y", "1"), ("b", "x", "1"), ("a", "x", "2"), ("a", "y", "1"), ("a", "x", "1")),
    (("a", "b", "c", "d", "e", "f"), ("a", "b", "c", "d", "e", "g"), ("a", "b", "c", "x", "e", "f"),
     ("a", "b", "c", "d", "e", "f"), ("a", "b", "c", "d", "e", "g"), ("a", "b", "c", "x", "e", "g")),
)

LARGE = (
    samples.long_table(),
    tuple(("v" + str(row),) for row in range(60)),
    (("a", "b", "c", "d", "e", "f"),) * 60,
    tuple(("ab"[row & 1], "v" + str(row)) for row in range(60)),
    tuple(("a", "b", "c", "d", "e", "v" + str(row * 7 % 40)) for row in range(60)),
)


def arrangements(rows):
    """How many grouped orders there are, group by group."""
    if len(rows[0]) == 0:
        return factorial(len(rows))
    groups = [[row[1:] for row in rows if row[0] == first] for first in {row[0] for row in rows}]
    return factorial(len(groups)) * prod(arrangements(group) for group in groups)


def ranked(table, choose, sign):
    """The order of the groups by the least (or greatest) numbers of their rows, and equal rows by their numbers."""
    def rank(row):
        starts = [table[row][:many] for many in range(1, len(table[row]) + 1)]
        groups = [[other for other in range(len(table)) if table[other][:len(start)] == start] for start in starts]
        return [sign * choose(group) for group in groups] + [sign * row]
    return tuple(sorted(range(len(table)), key=rank))


def fewest_printed(table):
    return min(cells_of(page) for page in samples.pages_meaning(table))


class BeginningsTest(unittest.TestCase):

    def test_the_example(self):
        self.assertEqual(beginnings_of(TABLE), [("a",), ("a", "x"), ("a", "y"), ("b",), ("b", "x")])
        self.assertEqual(fewest_cells(TABLE), 5)

    def test_all_small_tables(self):
        for table in samples.small_tables() + list(MIXED):
            self.assertEqual(beginnings_of(table), samples.beginnings(table))
            self.assertEqual(fewest_cells(table), len(samples.beginnings(table)))

    def test_ascending_as_python_compares_tuples(self):
        self.assertEqual(beginnings_of((("b", "1"), ("a", "9"), ("ab", "0"), ("a", "10"))), [
            ("a",), ("a", "10"), ("a", "9"), ("ab",), ("ab", "0"), ("b",), ("b", "1")])

    def test_equal_values_behind_other_ones_are_other_beginnings(self):
        self.assertEqual(beginnings_of((("a", "x"), ("b", "x"))), [("a",), ("a", "x"), ("b",), ("b", "x")])

    def test_rows_that_share_all_values_but_the_last_one(self):
        table = (("a", "b", "d"), ("a", "b", "c"))
        self.assertEqual(beginnings_of(table), [("a",), ("a", "b"), ("a", "b", "c"), ("a", "b", "d")])
        self.assertEqual(fewest_cells(table), 4)

    def test_one_row_and_equal_rows(self):
        for many in (1, 2, 60):
            self.assertEqual(beginnings_of((("a",),) * many), [("a",)])
            self.assertEqual(fewest_cells((("a", "b", "c", "d", "e", "f"),) * many), 6)

    def test_sixty_rows_without_a_common_first_value(self):
        table = tuple(("v" + str(row), "a", "b", "c", "d", "e") for row in range(60))
        self.assertEqual((len(beginnings_of(table)), fewest_cells(table)), (360, 360))
        self.assertEqual(beginnings_of(samples.long_table()), samples.beginnings(samples.long_table()))

    def test_no_page_that_means_the_rows_in_any_order_has_fewer_cells(self):
        printed_cells = lru_cache(None)(fewest_printed)
        for table in samples.small_tables():
            orders = list(permutations(range(len(table))))
            cells = [printed_cells(tuple(table[row] for row in order)) for order in orders]
            self.assertEqual(min(cells), fewest_cells(table))
            least = [order for order, many in zip(orders, cells) if many == fewest_cells(table)]
            self.assertEqual(least, samples.grouped_orders(table))

    def test_kinds(self):
        self.assertIs(type(beginnings_of(TABLE)), list)
        self.assertEqual({type(start) for start in beginnings_of(TABLE)}, {tuple})
        self.assertIs(type(fewest_cells(TABLE)), int)

    def test_no_table(self):
        for value in samples.NO_ROWS + samples.WITH_BLANKS:
            for function in (beginnings_of, fewest_cells, grouped, count_grouped):
                with self.subTest(repr(value)[:80]), self.assertRaises(InvalidTable):
                    function(value)


class IsGroupedTest(unittest.TestCase):

    def test_the_example(self):
        self.assertIs(is_grouped(TABLE, (0, 3, 2, 1)), True)
        self.assertIs(is_grouped(TABLE, (0, 2, 3, 1)), False)

    def test_all_orders_of_small_tables(self):
        for table in samples.small_tables():
            for order in permutations(range(len(table))):
                self.assertIs(is_grouped(table, order), samples.stand_together(table, order))

    def test_equal_rows_stand_together_too(self):
        table = (("a",), ("b",), ("a",), ("b",))
        self.assertIs(is_grouped(table, (0, 2, 3, 1)), True)
        self.assertIs(is_grouped(table, (0, 3, 1, 2)), False)

    def test_rows_without_a_common_first_value_are_grouped_in_every_order(self):
        table = (("a", "x"), ("b", "x"), ("c", "x"))
        self.assertEqual([is_grouped(table, order) for order in permutations(range(3))], [True] * 6)

    def test_one_row(self):
        self.assertIs(is_grouped((("a", "b"),), (0,)), True)

    def test_large_tables(self):
        for table in LARGE:
            ascending = tuple(sorted(range(60), key=lambda row: table[row]))
            self.assertIs(is_grouped(table, ascending), True)
            self.assertIs(is_grouped(table, ascending[::-1]), True)
            self.assertIs(is_grouped(table, tuple(range(60))), samples.stand_together(table, range(60)))
        table = LARGE[0]
        ascending = tuple(sorted(range(60), key=lambda row: table[row]))
        self.assertIs(is_grouped(table, ascending[1:] + ascending[:1]), False)

    def test_no_order(self):
        table = samples.TABLE
        for value in samples.NO_ORDERS:
            for function in (is_grouped, grouped_number):
                with self.subTest(repr(value)[:80]), self.assertRaises(InvalidOrder):
                    function(table, value)

    def test_no_order_of_sixty_rows(self):
        good = tuple(range(60))
        for value in (good[:59], good + (60,), good[:59] + (0,), good[:59] + (60,), (True,) + good[:1] + good[2:]):
            for function in (is_grouped, grouped_number):
                with self.subTest(value), self.assertRaises(InvalidOrder):
                    function(LARGE[0], value)

    def test_a_wrong_table_comes_ahead_of_a_wrong_order(self):
        for value in samples.NO_ROWS + samples.WITH_BLANKS:
            for order in ((0,), (0, 1), None, 0, [0]):
                for function in (is_grouped, grouped_number):
                    with self.subTest(repr(value)[:80]), self.assertRaises(InvalidTable):
                        function(value, order)


class GroupedTest(unittest.TestCase):

    def test_rows_in_ascending_order(self):
        self.assertEqual(grouped(TABLE), (("a", "x"), ("a", "x"), ("a", "y"), ("b", "x")))
        self.assertEqual(grouped((("b", "1"), ("a", "9"), ("ab", "0"), ("a", "10"))), (
            ("a", "10"), ("a", "9"), ("ab", "0"), ("b", "1")))

    def test_all_small_tables(self):
        for table in samples.small_tables():
            rows = grouped(table)
            self.assertEqual(rows, tuple(min(permutations(table))))
            self.assertEqual(cells_of(printed(rows)), fewest_cells(table))

    def test_one_row_and_sixty(self):
        self.assertEqual(grouped((("a", "b"),)), (("a", "b"),))
        for table in LARGE:
            self.assertEqual(grouped(table), tuple(sorted(table)))

    def test_kinds(self):
        self.assertIs(type(grouped(TABLE)), tuple)
        self.assertEqual({type(row) for row in grouped(TABLE)}, {tuple})


class NumberedOrdersTest(unittest.TestCase):

    def test_the_example(self):
        self.assertEqual(count_grouped(TABLE), 8)
        self.assertEqual([nth_grouped(TABLE, 0), nth_grouped(TABLE, 1)], [(0, 3, 2, 1), (1, 0, 3, 2)])
        self.assertEqual(grouped_number(TABLE, (1, 0, 3, 2)), 1)

    def test_all_grouped_orders_of_small_tables(self):
        for table in samples.small_tables() + list(MIXED):
            orders = samples.grouped_orders(table)
            self.assertEqual(count_grouped(table), len(orders))
            self.assertEqual([nth_grouped(table, number) for number in range(len(orders))], orders)
            self.assertEqual([grouped_number(table, order) for order in orders], list(range(len(orders))))

    def test_a_group_whose_rows_have_numbers_on_both_sides_of_another(self):
        table = (("a", "1"), ("b", "1"), ("a", "2"))
        orders = [nth_grouped(table, number) for number in range(4)]
        self.assertEqual(orders, [(0, 2, 1), (1, 0, 2), (1, 2, 0), (2, 0, 1)])

    def test_large_tables(self):
        for table in LARGE:
            count = arrangements(table)
            self.assertEqual(count_grouped(table), count)
            self.assertGreater(count, 10 ** 20)
            self.assertEqual(nth_grouped(table, 0), ranked(table, min, 1))
            self.assertEqual(nth_grouped(table, count - 1), ranked(table, max, -1))
            self.assert_numbers_lead_back(table, count)

    def assert_numbers_lead_back(self, table, count):
        near = [3 ** 200 // 2 % count + step for step in range(-2, 3)]
        numbers = sorted([0, 1, 2, count // 7, count // 3, count - 2, count - 1] + near)
        orders = [nth_grouped(table, number) for number in numbers]
        self.assertEqual([samples.stand_together(table, order) for order in orders], [True] * len(numbers))
        self.assertEqual(orders, sorted(orders))
        self.assertEqual([grouped_number(table, order) for order in orders], numbers)
        for value in (-1, count, count + 1):
            with self.assertRaises(InvalidNumber):
                nth_grouped(table, value)

    def test_sixty_equal_rows_and_sixty_rows_of_different_first_values_take_every_order(self):
        for table in (LARGE[1], LARGE[2]):
            self.assertEqual(count_grouped(table), factorial(60))
            self.assertEqual(nth_grouped(table, factorial(60) - 1), tuple(range(59, -1, -1)))
            self.assertEqual(nth_grouped(table, 1), tuple(range(58)) + (59, 58))
            self.assertEqual(nth_grouped(table, factorial(59)), (1, 0) + tuple(range(2, 60)))
            self.assertEqual(grouped_number(table, (59,) + tuple(range(59))), 59 * factorial(59))

    def test_two_groups_of_thirty_rows(self):
        table = LARGE[3]
        self.assertEqual(count_grouped(table), 2 * factorial(30) ** 2)
        for first in (0, 1, 29, 30, 59):
            number = first * factorial(30) * factorial(29)
            order = nth_grouped(table, number)
            self.assertEqual((order[0], grouped_number(table, order)), (first, number))
            if first:
                self.assertEqual(nth_grouped(table, number - 1)[0], first - 1)

    def test_one_row(self):
        for table in ((("a",),), (("a", "b", "c", "d", "e", "f"),)):
            self.assertEqual((count_grouped(table), nth_grouped(table, 0), grouped_number(table, (0,))), (1, (0,), 0))

    def test_the_table_of_a_page(self):
        self.assertEqual(count_grouped(filled(samples.PAGE)), 2 * 2 * 6)
        self.assertEqual(grouped_number(filled(samples.PAGE), (0, 1, 2, 3, 4)), 0)

    def test_kinds(self):
        self.assertIs(type(nth_grouped(TABLE, 0)), tuple)
        self.assertEqual({type(row) for row in nth_grouped(TABLE, 0)}, {int})
        self.assertEqual((type(count_grouped(TABLE)), type(grouped_number(TABLE, (0, 3, 2, 1)))), (int, int))

    def test_no_number(self):
        for table in (TABLE, (("a",),), (("a",), ("a",))):
            count = count_grouped(table)
            for value in samples.NO_NUMBERS + (count, count + 1, 10 ** 99):
                with self.subTest(repr(value)[:80]), self.assertRaises(InvalidNumber):
                    nth_grouped(table, value)

    def test_a_wrong_table_comes_ahead_of_a_wrong_number(self):
        for value in samples.NO_ROWS + samples.WITH_BLANKS:
            for number in (0, -1, None, True, 10 ** 99):
                with self.subTest(repr(value)[:80]), self.assertRaises(InvalidTable):
                    nth_grouped(value, number)

    def test_an_order_that_is_not_grouped(self):
        for table in samples.small_tables():
            together = samples.grouped_orders(table)
            for order in permutations(range(len(table))):
                if order not in together:
                    with self.assertRaises(NotGrouped):
                        grouped_number(table, order)


if __name__ == "__main__":
    unittest.main()
