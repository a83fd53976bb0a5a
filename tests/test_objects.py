"""[17]: pages as objects."""

import unittest
from itertools import permutations, product

from dittorows import repairs
from dittorows.errors import InvalidOrder, InvalidPage, InvalidRow, NotPrinted, OtherWidth, TooMany
from dittorows.objects import Printed
from dittorows.sheets import Sheet
from tests import samples
from tests.samples import PAGE, TABLE

LARGE = samples.WITH_BLANKS + samples.WITHOUT_BLANKS + (samples.long_page(),)


class Unequal:
    """A value that cannot be compared."""

    def __eq__(self, other):
        raise RuntimeError("compared")


class Equal:
    """A value that says of itself that it equals everything."""

    def __eq__(self, other):
        return True


class PrintedCase(unittest.TestCase):

    def assert_unchanged(self, one, page):
        self.assertEqual((one.rows, one.table, len(one)), (page, tuple(samples.meaning(page)), len(page)))


class PrintedTest(PrintedCase):

    def test_rows_and_table(self):
        for page in samples.small_pages() + list(LARGE):
            one = Printed(page)
            self.assertEqual((one.rows, one.table), (page, tuple(samples.meaning(page))))
            self.assertEqual((type(one.rows), type(one.table), type(one.table[0])), (tuple, tuple, tuple))

    def test_rows_and_table_are_not_set(self):
        one = Printed(PAGE)
        for name in ("rows", "table"):
            with self.assertRaises(AttributeError):
                setattr(one, name, TABLE[:1])
            with self.assertRaises(AttributeError):
                delattr(one, name)
        self.assert_unchanged(one, PAGE)

    def test_any_other_value_is_no_page(self):
        for value in samples.NO_ROWS + samples.BLANKS_FIRST + (Printed(PAGE), Sheet(PAGE), list(PAGE), Printed, Sheet):
            with self.subTest(repr(value)[:80]), self.assertRaises(InvalidPage):
                Printed(value)

    def test_the_length(self):
        for page in LARGE:
            self.assertEqual(len(Printed(page)), len(page))

    def test_it_is_not_iterated_over(self):
        # the document leaves this open; a clear error is better than one about a row behind the last
        with self.assertRaises(TypeError):
            list(Printed(PAGE))


class SumTest(PrintedCase):

    def test_all_pairs_of_some_pages(self):
        some = [page for page in samples.small_pages() if len(page) < 4]
        for page, other in product(some[::5], some[::7]):
            if len(page[0]) == len(other[0]):
                one, two = Printed(page), Printed(other)
                both = one + two
                self.assertIs(type(both), Printed)
                self.assertEqual(both.rows, page + other)
                self.assertEqual(both.table, tuple(samples.meaning(page + other)))
                self.assertEqual(both.table, one.table + two.table)
                self.assertEqual((one.rows, two.rows), (page, other))

    def test_an_object_and_itself(self):
        one = Printed(PAGE)
        both = one + one
        self.assertEqual(both.rows, PAGE + PAGE)
        self.assertIsNot(both, one)
        self.assertEqual((one + both).rows, PAGE * 3)
        self.assert_unchanged(one, PAGE)

    def test_just_sixty_rows_and_sixty_one(self):
        for width in (1, 6):
            for many in (1, 2, 30, 58, 59):
                one = Printed((("a",) * width,) + ((None,) * width,) * (many - 1))
                for more in (60 - many, 59 - many):
                    if more:
                        other = Printed((("b",) * width,) * more)
                        self.assertEqual((one + other).rows, one.rows + other.rows)
                        self.assertEqual((other + one).rows, other.rows + one.rows)
                for more in (61 - many, 60):
                    other = Printed((("b",) * width,) * more)
                    for left, right in ((one, other), (other, one)):
                        with self.assertRaises(TooMany):
                            left + right
                    self.assertEqual((len(one), len(other)), (many, more))

    def test_another_value_is_not_printed(self):
        others = samples.NO_ROWS + LARGE + samples.BLANKS_FIRST + (Sheet(PAGE), Printed, Unequal(), Equal())
        for page in (PAGE, (("a",),), samples.long_page()):
            one = Printed(page)
            for value in others:
                with self.subTest(repr(value)[:80]), self.assertRaises(NotPrinted):
                    one + value
            self.assert_unchanged(one, page)

    def test_another_width(self):
        widths = [Printed((("a",) * width,)) for width in range(1, 7)]
        for one, other in permutations(widths, 2):
            with self.assertRaises(OtherWidth):
                one + other

    def test_another_width_comes_ahead_of_too_many_rows(self):
        one, other = Printed((("a",),) * 60), Printed((("a", "b"),) * 60)
        for left, right in ((one, other), (other, one)):
            with self.assertRaises(OtherWidth):
                left + right
            with self.assertRaises(TooMany):
                left + left
        self.assert_unchanged(one, (("a",),) * 60)


class RowsTest(PrintedCase):

    def test_the_full_row_with_a_number(self):
        for page in LARGE:
            one = Printed(page)
            self.assertEqual([one[row] for row in range(len(page))], samples.meaning(page))
        self.assertEqual(Printed(PAGE)[2], ("ann", "oslo", "3"))

    def test_any_other_value_is_no_row(self):
        for page in (PAGE, (("a",),), samples.long_page()):
            one = Printed(page)
            for value in samples.no_numbers_of(len(page)) + (None, (0, 1), slice(None), one, Equal()):
                with self.subTest(repr(value)[:80]), self.assertRaises(InvalidRow):
                    one[value]
            self.assert_unchanged(one, page)

    def test_the_full_rows_are_in_it(self):
        for page in LARGE:
            one = Printed(page)
            for row in samples.meaning(page):
                self.assertIs(row in one, True)
                self.assertIs(row not in one, False)

    def test_all_rows_of_small_pages(self):
        marks = (None, "a", "b", "c")
        for page in samples.small_pages()[::3]:
            one = Printed(page)
            table = samples.meaning(page)
            for width in (1, 2, 3):
                for row in product(marks, repeat=width):
                    self.assertIs(row in one, any(row == full for full in table))

    def test_any_other_value_is_not_in_it(self):
        table = samples.meaning(PAGE)
        others = samples.NO_ROWS + samples.NO_CELLS + samples.NO_ORDERS + (
            PAGE, TABLE, table, Printed(PAGE), Sheet(PAGE), Unequal(), Equal(), PAGE[1], PAGE[3], list(table[0]),
            table[0][:2], table[0] + ("a",), ("ann", "oslo", 1), ("ann", "oslo", b"1"), ("ann", "oslo", Equal()),
            (Equal(), "oslo", "1"), ("ann", Unequal(), "1"), (Unequal(),) * 3, ("ann", "rome", "2"), "ann", "ann,oslo,1")
        for value in others:
            with self.subTest(type(value)):
                self.assertIs(value in Printed(PAGE), False)


class EqualTest(PrintedCase):

    def test_all_pairs_of_small_pages(self):
        some = samples.small_pages()[::11]
        for page, other in product(some, some):
            same = samples.meaning(page) == samples.meaning(other)
            self.assertIs(Printed(page) == Printed(other), same)
            self.assertIs(Printed(page) != Printed(other), not same)

    def test_all_pages_that_mean_a_table_are_equal(self):
        table = (("a", "x", "1"), ("a", "x", "2"), ("a", "x", "2"), ("a", "y", "2"))
        pages = samples.pages_meaning(table)
        self.assertGreater(len(pages), 20)
        for page in pages:
            self.assertIs(Printed(page) == Printed(table), True)

    def test_rows_in_another_order_are_another_table(self):
        self.assertIs(Printed((("a",), ("b",))) == Printed((("b",), ("a",))), False)
        self.assertIs(Printed((("a",),)) == Printed((("a",), ("a",))), False)

    def test_nothing_else_is_equal(self):
        one = Printed(TABLE)
        for value in samples.NO_ROWS + (TABLE, PAGE, list(TABLE), Sheet(TABLE), Printed):
            self.assertIs(one == value, False)
            self.assertIs(value == one, False)
            self.assertIs(one != value, True)


class CallTest(PrintedCase):

    def test_all_orders_of_small_pages(self):
        for page in samples.small_pages()[::9] + [PAGE]:
            one = Printed(page)
            for order in permutations(range(len(page))):
                found = one(order)
                ways = samples.ways_to_write(page, order)
                self.assertEqual(found.rows, min(ways, key=lambda way: sum(way[0]))[1])
                self.assertEqual(found.table, tuple(one.table[row] for row in order))
                self.assertEqual(found.rows, repairs.written(page, order))
            self.assert_unchanged(one, page)

    def test_a_new_object(self):
        one = Printed(PAGE)
        same = one((0, 1, 2, 3, 4))
        self.assertIs(type(same), Printed)
        self.assertIsNot(same, one)
        self.assertEqual((same.rows, same == one), (PAGE, True))
        self.assertEqual(one(order=(4, 3, 2, 1, 0)).rows, one((4, 3, 2, 1, 0)).rows)

    def test_an_order_whose_first_row_has_blanks(self):
        self.assertEqual(Printed((("a", "b"), (None, None)))((1, 0)).rows, (("a", "b"), ("a", "b")))
        self.assertEqual(Printed(PAGE)((3, 0, 4, 1, 2)).rows, (
            ("ann", "rome", "1"), ("ann", "oslo", "1"), ("bob", "rome", "1"), ("ann", "oslo", "2"), (None, None, "3")))

    def test_one_row_and_sixty(self):
        self.assertEqual(Printed((("a",),))((0,)).rows, (("a",),))
        back = tuple(range(59, -1, -1))
        one = Printed(samples.long_page())
        self.assertEqual(one(back).table, one.table[::-1])
        self.assertEqual(one(back)(back), one)
        self.assertEqual(one(back).rows, repairs.written(one.rows, back))

    def test_no_order(self):
        one = Printed(PAGE)
        for value in samples.NO_ORDERS + (one, Equal(), (0, 1, 2, 3, Equal())):
            with self.subTest(type(value)), self.assertRaises(InvalidOrder):
                one(value)
        self.assert_unchanged(one, PAGE)


if __name__ == "__main__":
    unittest.main()
