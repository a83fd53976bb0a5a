"""[10] (d), [15]: the cells that must be written."""

import unittest
from itertools import permutations

from dittorows.errors import InvalidOrder, InvalidPage
from dittorows.orders import keeps
from dittorows.pages import blanks_of, filled, is_page
from dittorows.repairs import fewest_to_write, shown_in, written
from tests import samples
from tests.samples import PAGE

FUNCTIONS = (fewest_to_write, written, shown_in)


class RepairsTest(unittest.TestCase):

    def test_the_example(self):
        order = (3, 0, 4, 1, 2)
        self.assertEqual(fewest_to_write(PAGE, order), 3)
        self.assertEqual(shown_in(PAGE, order), [(3, 1), (1, 2)])
        self.assertEqual(written(PAGE, order), (
            ("ann", "rome", "1"), ("ann", "oslo", "1"), ("bob", "rome", "1"), ("ann", "oslo", "2"), (None, None, "3")))

    def test_all_ways_to_write_in_all_orders_of_small_pages(self):
        for page in samples.small_pages():
            for order in permutations(range(len(page))):
                ways = samples.ways_to_write(page, order)
                fewest = min(sum(counts) for counts, _ in ways)
                least = [(counts, rows) for counts, rows in ways if sum(counts) == fewest]
                self.assertEqual(len(least), 1)
                counts, rows = least[0]
                self.assertTrue(all(many >= must for way, _ in ways for many, must in zip(way, counts)))
                self.assertEqual(fewest_to_write(page, order), fewest)
                self.assertEqual(written(page, order), rows)
                self.assertEqual(shown_in(page, order), [(row, many) for row, many in zip(order, counts) if many])

    def test_nothing_is_written_in_orders_that_keep_the_page(self):
        for page in samples.small_pages():
            for order in samples.keeping_orders(page):
                self.assertEqual((fewest_to_write(page, order), shown_in(page, order)), (0, []))
                self.assertEqual(written(page, order), tuple(page[row] for row in order))

    def test_all_blanks_of_the_first_row_are_written(self):
        page = (("a", "b", "c"), (None, None, None), (None, "x", "y"))
        self.assertEqual(shown_in(page, (1, 2, 0)), [(1, 3)])
        self.assertEqual(written(page, (1, 2, 0)), (("a", "b", "c"), (None, "x", "y"), ("a", "b", "c")))
        self.assertEqual(shown_in(page, (2, 0, 1)), [(2, 1)])

    def test_blanks_that_may_stay_are_not_written_and_printed_cells_do_not_become_blank(self):
        page = (("a", "b", "c"), ("a", "b", "d"), (None, "e", "f"), (None, None, "g"))
        self.assertEqual(written(page, (1, 0, 3, 2)), (
            ("a", "b", "d"), ("a", "b", "c"), (None, "e", "g"), (None, "e", "f")))
        self.assertEqual(shown_in(page, (1, 0, 3, 2)), [(3, 1)])

    def test_the_last_ones_of_the_blanks_are_written(self):
        page = (("a", "b", "c"), (None, None, None), ("a", "x", "y"))
        self.assertEqual(written(page, (0, 2, 1)), (("a", "b", "c"), ("a", "x", "y"), (None, "b", "c")))
        self.assertEqual((shown_in(page, (0, 2, 1)), fewest_to_write(page, (0, 2, 1))), ([(1, 2)], 2))

    def test_true_values_are_written_where_a_wrong_row_stands_ahead(self):
        page = (("a", "b"), ("c", "d"), (None, "e"), (None, "f"))
        self.assertEqual(written(page, (0, 2, 3, 1)), (("a", "b"), ("c", "e"), (None, "f"), ("c", "d")))
        self.assertEqual(shown_in(page, (0, 2, 3, 1)), [(2, 1)])

    def test_rows_without_a_common_first_value(self):
        page = (("a", "b"), ("c", "b"), ("d", "b"))
        for order in permutations(range(3)):
            self.assertEqual((fewest_to_write(page, order), shown_in(page, order)), (0, []))

    def test_one_row(self):
        for page in ((("a",),), (("a", "b", "c", "d", "e", "f"),)):
            self.assertEqual((fewest_to_write(page, (0,)), shown_in(page, (0,)), written(page, (0,))), (0, [], page))

    def test_sixty_equal_rows(self):
        page = (("a",) * 6,) + ((None,) * 6,) * 59
        back = tuple(range(59, -1, -1))
        self.assertEqual(fewest_to_write(page, back), 6)
        self.assertEqual(shown_in(page, back), [(59, 6)])
        self.assertEqual(written(page, back), (("a",) * 6,) + ((None,) * 6,) * 58 + (("a",) * 6,))

    def test_a_long_page_needs_each_of_the_cells(self):
        page = samples.long_page()
        table = samples.meaning(page)
        for order in (tuple(range(59, -1, -1)), tuple((row * 7 + 3) % 60 for row in range(60))):
            rows = written(page, order)
            self.assertEqual(samples.meaning(rows), [table[row] for row in order])
            before = blanks_of(page)
            fewer = [before[row] - row_now.count(None) for row, row_now in zip(order, rows)]
            self.assertEqual(shown_in(page, order), [(row, many) for row, many in zip(order, fewer) if many])
            self.assertEqual(fewest_to_write(page, order), sum(fewer))
            self.assertGreater(sum(fewer), 20)
            for place, many in enumerate(fewer):
                if many:
                    blanks = rows[place].count(None) + 1
                    less = list(rows)
                    less[place] = (None,) * blanks + rows[place][blanks:]
                    self.assertNotEqual(samples.meaning(less), [table[row] for row in order])

    def test_what_is_written_is_a_page_that_means_the_same(self):
        for page in (PAGE, samples.long_page()):
            order = tuple(range(len(page)))[::-1]
            self.assertIs(is_page(written(page, order)), True)
            self.assertEqual(filled(written(page, order)), tuple(filled(page)[row] for row in order))
            self.assertIs(keeps(written(page, order), tuple(range(len(page)))), True)

    def test_kinds(self):
        order = (3, 0, 4, 1, 2)
        self.assertIs(type(fewest_to_write(PAGE, order)), int)
        self.assertIs(type(shown_in(PAGE, order)), list)
        self.assertEqual({(type(item), type(item[0]), type(item[1])) for item in shown_in(PAGE, order)}, {(tuple, int, int)})
        self.assertIs(type(written(PAGE, order)), tuple)
        self.assertEqual({type(row) for row in written(PAGE, order)}, {tuple})

    def test_no_order(self):
        for value in samples.NO_ORDERS:
            for function in FUNCTIONS:
                with self.subTest(repr(value)[:80]), self.assertRaises(InvalidOrder):
                    function(PAGE, value)

    def test_a_wrong_page_comes_ahead_of_a_wrong_order(self):
        for value in samples.NO_ROWS:
            for order in ((0,), (0, 1), None, 0, [0]):
                for function in FUNCTIONS:
                    with self.subTest(repr(value)[:80]), self.assertRaises(InvalidPage):
                        function(value, order)


if __name__ == "__main__":
    unittest.main()
