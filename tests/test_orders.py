"""[7], [8], [10] (a) and (b), [13]: orders, and those that keep a page."""

import unittest
from itertools import permutations, product
from math import factorial, prod

from dittorows.errors import (InvalidChoice, InvalidColumn, InvalidNumber, InvalidOrder, InvalidPage, InvalidRow,
                              Loose)
from dittorows.orders import (count_orders, hosts_of, keeps, nth_order, order_number, read_in, sort_order, wrong_rows)
from dittorows.pages import blanks_of, filled, shared
from tests import samples
from tests.samples import PAGE, TABLE

# An order that does not keep PAGE.
LOOSE = (0, 3, 1, 2, 4)


class ReadTest(unittest.TestCase):

    def test_the_example(self):
        self.assertEqual(read_in(PAGE, (0, 1, 2, 3, 4)), list(TABLE))
        self.assertEqual(read_in(PAGE, (3, 0, 4, 1, 2)), [
            (None, "rome", "1"), ("ann", "oslo", "1"), ("bob", "rome", "1"), ("bob", "rome", "2"), ("bob", "rome", "3")])
        self.assertEqual(wrong_rows(PAGE, (3, 0, 4, 1, 2)), [1, 2, 3])
        self.assertIs(keeps(PAGE, (4, 0, 2, 1, 3)), True)
        self.assertIs(keeps(PAGE, LOOSE), False)
        self.assertEqual(wrong_rows(PAGE, LOOSE), [1, 2])

    def test_blanks_with_only_blanks_above_mean_nothing(self):
        page = (("a", "b", "c"), (None, None, "d"), (None, "e", "f"), (None, None, None))
        self.assertEqual(read_in(page, (3, 1, 2, 0)), [
            (None, None, None), (None, None, "d"), (None, "e", "f"), ("a", "b", "c")])
        self.assertEqual(read_in(page, (1, 3, 0, 2)), [
            (None, None, "d"), (None, None, "d"), ("a", "b", "c"), ("a", "e", "f")])
        self.assertEqual(wrong_rows(page, (1, 3, 0, 2)), [1, 3])

    def test_the_wrong_rows_are_ascending_whatever_the_order(self):
        page = (("a", "b"), (None, "c"), (None, "d"), ("e", "f"))
        self.assertEqual(wrong_rows(page, (3, 2, 1, 0)), [1, 2])

    def test_rows_behind_a_wrong_one_can_be_right(self):
        page = (("a", "b"), ("c", "b"), (None, "d"), ("a", "e"), (None, "f"))
        self.assertEqual(wrong_rows(page, (0, 2, 1, 3, 4)), [2])
        self.assertEqual(wrong_rows(page, (0, 4, 2, 3, 1)), [2])

    def test_equal_rows_can_stand_for_each_other(self):
        page = (("a", "b"), ("a", "b"), (None, None), ("c", "d"))
        self.assertIs(keeps(page, (3, 0, 2, 1)), True)
        self.assertIs(keeps(page, (1, 2, 0, 3)), True)
        self.assertEqual(wrong_rows(page, (0, 3, 2, 1)), [2])

    def test_all_orders_of_small_pages(self):
        for page in samples.small_pages():
            table = samples.meaning(page)
            for order in permutations(range(len(page))):
                read = samples.meaning([page[row] for row in order])
                wrong = sorted(row for place, row in enumerate(order) if read[place] != table[row])
                self.assertEqual(read_in(page, order), read)
                self.assertEqual(wrong_rows(page, order), wrong)
                self.assertIs(keeps(page, order), not wrong)

    def test_what_the_document_claims_of_the_orders_that_keep_a_page(self):
        for page in samples.small_pages():
            blanks = blanks_of(page)
            for order in permutations(range(len(page))):
                follows = shared(tuple(filled(page)[row] for row in order))
                claimed = all(blanks[row] <= follows[place] for place, row in enumerate(order))
                self.assertIs(keeps(page, order), claimed)

    def test_one_row(self):
        self.assertEqual(read_in((("a", "b"),), (0,)), [("a", "b")])
        self.assertEqual((keeps((("a", "b"),), (0,)), wrong_rows((("a", "b"),), (0,))), (True, []))

    def test_a_long_page(self):
        page = samples.long_page()
        back = tuple(range(59, -1, -1))
        turned = tuple((row * 7 + 3) % 60 for row in range(60))
        for order in (tuple(range(60)), back, turned):
            self.assertEqual(read_in(page, order), samples.meaning([page[row] for row in order]))
        self.assertIs(keeps(page, tuple(range(60))), True)
        self.assertIs(keeps(page, back), False)

    def test_kinds(self):
        self.assertIs(type(read_in(PAGE, LOOSE)), list)
        self.assertEqual({type(row) for row in read_in(PAGE, LOOSE)}, {tuple})
        self.assertIs(type(wrong_rows(PAGE, LOOSE)), list)

    def test_no_order(self):
        for value in samples.NO_ORDERS:
            for function in (keeps, read_in, wrong_rows, order_number):
                with self.subTest(repr(value)[:80]), self.assertRaises(InvalidOrder):
                    function(PAGE, value)

    def test_a_wrong_page_comes_ahead_of_a_wrong_order(self):
        for value in samples.NO_ROWS:
            for order in ((0,), (0, 1), None, 0, [0]):
                for function in (keeps, read_in, wrong_rows, order_number):
                    with self.subTest(repr(value)[:80]), self.assertRaises(InvalidPage):
                        function(value, order)


class HostsTest(unittest.TestCase):

    def test_the_example(self):
        self.assertEqual([hosts_of(PAGE, row) for row in (0, 4, 3, 1, 2)], [[None], [None, 0], [0], [0], [0, 1]])

    def test_all_small_pages(self):
        for page in samples.small_pages():
            for row in range(len(page)):
                self.assertEqual(hosts_of(page, row), samples.hosts(page, row))

    def test_hosts_stand_in_the_sequence_and_not_in_the_page(self):
        page = (("a", "b"), (None, "c"), ("a", "d"), (None, "e"))
        self.assertEqual([hosts_of(page, row) for row in range(4)], [[None], [0, 2], [None, 0], [0, 2, 1]])

    def test_a_row_that_is_all_blanks_has_equal_rows_as_hosts(self):
        page = (("a", "b"), (None, None), (None, "c"), ("a", "b"), (None, None))
        self.assertEqual([hosts_of(page, row) for row in (1, 4)], [[0, 3], [0, 3, 1]])

    def test_a_row_shares_enough_with_rows_of_other_groups(self):
        page = (("a", "b", "c"), ("x", "b", "c"), (None, "b", "d"), ("a", "y", "c"))
        self.assertEqual(hosts_of(page, 2), [1])

    def test_a_long_page(self):
        page = samples.long_page()
        for row in range(60):
            self.assertEqual(hosts_of(page, row), samples.hosts(page, row))

    def test_no_row(self):
        for page in (PAGE, (("a",),), (("a",), (None,))):
            for value in samples.STRANGE + (True, False, -1, len(page), len(page) + 1, 10 ** 99, -10 ** 99, (0,), [0]):
                with self.subTest(repr(value)[:80]), self.assertRaises(InvalidRow):
                    hosts_of(page, value)

    def test_a_wrong_page_comes_ahead_of_a_wrong_row(self):
        for value in samples.NO_ROWS:
            for row in (0, -1, None, True):
                with self.subTest(repr(value)[:80]), self.assertRaises(InvalidPage):
                    hosts_of(value, row)


class NumberedOrdersTest(unittest.TestCase):

    def test_the_example(self):
        orders = [(4, 0, 2, 1, 3), (4, 0, 1, 2, 3), (0, 2, 1, 3, 4), (0, 1, 2, 3, 4)]
        self.assertEqual(count_orders(PAGE), 4)
        self.assertEqual([nth_order(PAGE, number) for number in range(4)], orders)
        self.assertEqual([order_number(PAGE, order) for order in orders], [0, 1, 2, 3])
        self.assertEqual(sorted(orders), samples.keeping_orders(PAGE))
        self.assertEqual(samples.code(PAGE, (4, 0, 2, 1, 3)), [0, 0, 0, 0, 0])

    def test_all_orders_of_small_pages(self):
        for page in samples.small_pages():
            orders = sorted(samples.keeping_orders(page), key=lambda order: samples.code(page, order))
            self.assertEqual(count_orders(page), len(orders))
            self.assertEqual([nth_order(page, number) for number in range(len(orders))], orders)
            self.assertEqual([order_number(page, order) for order in orders], list(range(len(orders))))

    def test_each_list_of_indexes_is_the_code_of_one_order(self):
        for page in samples.small_pages():
            sizes = [len(hosts_of(page, row)) for row in samples.sequence(page)]
            codes = [samples.code(page, nth_order(page, number)) for number in range(count_orders(page))]
            self.assertEqual(codes, [list(indexes) for indexes in product(*[range(size) for size in sizes])])

    def test_sixty_rows_without_blanks(self):
        page = tuple(("v" + str(row % 7),) for row in range(60))
        count = factorial(60)
        self.assertEqual(count_orders(page), count)
        self.assertEqual(nth_order(page, 0), tuple(range(59, -1, -1)))
        self.assertEqual(nth_order(page, count - 1), tuple(range(60)))
        self.assertEqual(order_number(page, tuple(range(60))), count - 1)
        self.assert_numbers_lead_back(page)

    def test_sixty_equal_rows_that_are_blank(self):
        page = (("a",) * 6,) + ((None,) * 6,) * 59
        count = factorial(59)
        self.assertEqual(count_orders(page), count)
        self.assertEqual(nth_order(page, 0), (0,) + tuple(range(59, 0, -1)))
        self.assertEqual(nth_order(page, count - 1), tuple(range(60)))
        self.assert_numbers_lead_back(page)

    def test_a_long_page(self):
        page = samples.long_page()
        self.assertEqual(count_orders(page), prod(len(samples.hosts(page, row)) for row in range(60)))
        self.assertGreater(count_orders(page), 10 ** 40)
        self.assertEqual(nth_order(page, order_number(page, tuple(range(60)))), tuple(range(60)))
        self.assert_numbers_lead_back(page)

    def assert_numbers_lead_back(self, page):
        count = count_orders(page)
        numbers = (0, 1, 2, count // 7, count // 3, 3 ** 200 // 2 % count, count - 2, count - 1)
        orders = [nth_order(page, number) for number in numbers]
        self.assertEqual([keeps(page, order) for order in orders], [True] * len(numbers))
        self.assertEqual([order_number(page, order) for order in orders], list(numbers))
        near = [samples.code(page, nth_order(page, count // 5 + step)) for step in range(3)]
        self.assertEqual(near, sorted(near))
        for value in (-1, count, count + 1):
            with self.assertRaises(InvalidNumber):
                nth_order(page, value)

    def test_one_row(self):
        page = (("a", "b"),)
        self.assertEqual((count_orders(page), nth_order(page, 0), order_number(page, (0,))), (1, (0,), 0))

    def test_kinds(self):
        self.assertIs(type(nth_order(PAGE, 0)), tuple)
        self.assertEqual((type(count_orders(PAGE)), type(order_number(PAGE, (0, 1, 2, 3, 4)))), (int, int))

    def test_no_number(self):
        for page in (PAGE, (("a",),), (("a",), ("b",))):
            count = count_orders(page)
            for value in samples.NO_NUMBERS + (count, count + 1, 10 ** 99):
                with self.subTest(repr(value)[:80]), self.assertRaises(InvalidNumber):
                    nth_order(page, value)

    def test_an_order_that_does_not_keep_the_page(self):
        for page in samples.small_pages():
            kept = samples.keeping_orders(page)
            for order in permutations(range(len(page))):
                if order not in kept:
                    with self.assertRaises(Loose):
                        order_number(page, order)

    def test_no_page(self):
        for value in samples.NO_ROWS:
            with self.subTest(repr(value)[:80]):
                self.assertRaises(InvalidPage, count_orders, value)
                for number in (0, -1, None, True):
                    self.assertRaises(InvalidPage, nth_order, value, number)


class SortTest(unittest.TestCase):

    def test_the_example(self):
        self.assertEqual(sort_order(PAGE, 1), (0, 3, 4, 1, 2))
        self.assertEqual(sort_order(PAGE, 0, blanks_last=False), (1, 2, 3, 0, 4))
        self.assertEqual(sort_order(PAGE, 0, blanks_last=True), (0, 4, 1, 2, 3))
        self.assertEqual(sort_order(PAGE, 2), (0, 3, 4, 1, 2))

    def test_printed_cells_are_compared_and_not_meanings(self):
        page = (("b", "z"), (None, "y"), ("a", "x"), (None, "y"))
        self.assertEqual(sort_order(page, 0), (2, 0, 1, 3))
        self.assertEqual(sort_order(page, 0, blanks_last=False), (1, 3, 2, 0))
        self.assertEqual(sort_order(page, 1), (2, 1, 3, 0))

    def test_values_are_compared_as_strings(self):
        page = (("b",), ("10",), ("9",), ("ab",), ("a",), ("100",), ("0a",))
        self.assertEqual(sort_order(page, 0), (6, 1, 5, 2, 4, 3, 0))

    def test_equal_cells_stand_by_their_numbers(self):
        page = (("b",), ("a",), ("b",), (None,), ("a",), (None,))
        self.assertEqual(sort_order(page, 0), (1, 4, 0, 2, 3, 5))
        self.assertEqual(sort_order(page, 0, blanks_last=False), (3, 5, 1, 4, 0, 2))

    def test_other_columns_do_not_matter(self):
        page = (("a", "x", "2"), ("a", "x", "1"), ("a", "w", "9"))
        self.assertEqual([sort_order(page, column) for column in range(3)], [(0, 1, 2), (2, 0, 1), (1, 0, 2)])

    def test_all_small_pages(self):
        for page in samples.small_pages():
            for column in range(len(page[0])):
                for last in (True, False):
                    ranks = [((cell is None) == last, cell or "") for cell in [row[column] for row in page]]
                    expected = tuple(sorted(range(len(page)), key=lambda row: (ranks[row], row)))
                    self.assertEqual(sort_order(page, column, blanks_last=last), expected)

    def test_it_is_an_order_that_may_keep_the_page_or_not(self):
        self.assertIs(keeps(PAGE, sort_order(PAGE, 1)), False)
        self.assertIs(keeps(TABLE, sort_order(TABLE, 1)), True)
        self.assertIs(type(sort_order(PAGE, 1)), tuple)

    def test_the_widest_and_the_longest_page(self):
        page = (("a", "b", "c", "d", "e", "f"),) + ((None,) * 5 + ("e",),) * 59
        self.assertEqual(sort_order(page, 5), tuple(range(1, 60)) + (0,))
        self.assertEqual(sort_order(page, 4, blanks_last=False), tuple(range(1, 60)) + (0,))
        self.assertEqual(sort_order(page, 4), tuple(range(60)))

    def test_no_column(self):
        for page in (PAGE, (("a",),), (("a", "b"), (None, None))):
            wide = len(page[0])
            for value in samples.STRANGE + (True, False, -1, wide, wide + 1, 10 ** 99, -10 ** 99, (0,), [0]):
                for last in (True, False, None, 1):
                    with self.subTest(repr(value)[:80]), self.assertRaises(InvalidColumn):
                        sort_order(page, value, blanks_last=last)

    def test_no_choice(self):
        for value in samples.STRANGE + (0, 1, -1, 2, (), (True,), [False], "True"):
            for column in (0, 2):
                with self.subTest(repr(value)[:80]), self.assertRaises(InvalidChoice):
                    sort_order(PAGE, column, blanks_last=value)

    def test_a_wrong_page_comes_first(self):
        for value in samples.NO_ROWS:
            for column, last in ((0, True), (-1, True), (0, 1), (None, None)):
                with self.subTest(repr(value)[:80]), self.assertRaises(InvalidPage):
                    sort_order(value, column, blanks_last=last)


if __name__ == "__main__":
    unittest.main()
