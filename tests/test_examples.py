"""The examples of the document, and the facts of [11]."""

import doctest
import unittest
from itertools import permutations

from dittorows.orders import count_orders, hosts_of, keeps, nth_order, order_number
from dittorows.pages import filled, is_page
from tests import samples
from tests.samples import PAGE


class ExamplesTest(unittest.TestCase):

    def test_the_examples_of_the_document(self):
        failed, tried = doctest.testfile("examples.txt")
        self.assertEqual((failed, tried), (0, 40))

    def test_the_examples_of_the_readme(self):
        failed, tried = doctest.testfile("../README.md")
        self.assertEqual(failed, 0)
        self.assertGreater(tried, 0)

    def test_the_example_page(self):
        self.assertIs(is_page(PAGE), True)
        self.assertEqual([" ".join(row) for row in filled(PAGE)], [
            "ann oslo 1", "ann oslo 2", "ann oslo 3", "ann rome 1", "bob rome 1"])

    def test_the_hosts_of_the_rows_in_the_sequence(self):
        self.assertEqual(samples.sequence(PAGE), [0, 4, 3, 1, 2])
        self.assertEqual([hosts_of(PAGE, row) for row in (0, 4, 3, 1, 2)], [[None], [None, 0], [0], [0], [0, 1]])

    def test_four_orders_keep_the_page(self):
        kept = [order for order in permutations(range(5)) if keeps(PAGE, order)]
        self.assertEqual((len(kept), count_orders(PAGE)), (4, 4))

    def test_the_code_of_an_order(self):
        self.assertEqual(samples.code(PAGE, (4, 0, 2, 1, 3)), [0, 0, 0, 0, 0])
        self.assertEqual(nth_order(PAGE, 0), (4, 0, 2, 1, 3))
        self.assertEqual(order_number(PAGE, (4, 0, 2, 1, 3)), 0)


if __name__ == "__main__":
    unittest.main()
