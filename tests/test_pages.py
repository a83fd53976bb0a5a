"""[4], [5], [6], [12]: what pages and tables are, what a page means, and the pages that mean a table."""

import unittest

from dittorows.errors import InvalidNumber, InvalidPage, InvalidTable
from dittorows.pages import (blanks_of, cells_of, count_pages, filled, is_page, is_table, nth_page, page_number,
                             printed, shared)
from tests import samples
from tests.samples import PAGE, TABLE


class IsPageTest(unittest.TestCase):

    def test_pages(self):
        for page in samples.WITHOUT_BLANKS + samples.WITH_BLANKS:
            with self.subTest(page):
                self.assertIs(is_page(page), True)

    def test_tables(self):
        for table in samples.WITHOUT_BLANKS:
            with self.subTest(table):
                self.assertIs(is_table(table), True)

    def test_a_page_with_blanks_is_no_table(self):
        for page in samples.WITH_BLANKS:
            with self.subTest(page):
                self.assertIs(is_table(page), False)

    def test_any_other_value_is_neither(self):
        for value in samples.NO_ROWS:
            with self.subTest(repr(value)[:80]):
                self.assertIs(is_page(value), False)
                self.assertIs(is_table(value), False)

    def test_numbers_of_rows(self):
        for many in range(0, 63):
            rows = tuple((str(row), "a") for row in range(many))
            self.assertIs(is_page(rows), 1 <= many <= 60)
            self.assertIs(is_table(rows), 1 <= many <= 60)
            self.assertIs(is_page(rows[:1] + ((None, "b"),) * (many - 1)), 1 <= many <= 60)

    def test_numbers_of_values(self):
        for many in range(0, 10):
            self.assertIs(is_page((("a",) * many,)), 1 <= many <= 6)
            self.assertIs(is_table((("a",) * many,)), 1 <= many <= 6)
            self.assertIs(is_page((("a",) * many, (None,) * many)), 1 <= many <= 6)

    def test_numbers_of_characters(self):
        for many in range(0, 12):
            self.assertIs(is_page((("a", "z" * many),)), 1 <= many <= 8)
            self.assertIs(is_table((("9" * many, "a"),)), 1 <= many <= 8)
            self.assertIs(is_page((("a", "b"), (None, "0" * many))), 1 <= many <= 8)

    def test_characters(self):
        allowed = "abcdefghijklmnopqrstuvwxyz0123456789"
        for sign in [chr(code) for code in range(0, 700)]:
            with self.subTest(sign):
                self.assertIs(is_page(((sign,),)), sign in allowed)
                self.assertIs(is_table((("a", "b" + sign),)), sign in allowed)
                self.assertIs(is_page((("a", "b"), (None, sign + "b"))), sign in allowed)

    def test_where_blanks_may_stand(self):
        marks = (None, "a")
        for row in [(one, two, three) for one in marks for two in marks for three in marks]:
            ahead = row in (("a", "a", "a"), (None, "a", "a"), (None, None, "a"), (None, None, None))
            with self.subTest(row):
                self.assertIs(is_page((("a", "b", "c"), row)), ahead)
                self.assertIs(is_page((row,)), row == ("a", "a", "a"))
                self.assertIs(is_page((row, ("a", "b", "c"))), row == ("a", "a", "a"))
                self.assertIs(is_table((("a", "b", "c"), row)), row == ("a", "a", "a"))

    def test_one_wrong_row_among_sixty(self):
        good = (("a", "b"),) * 60
        for wrong in (("a",), ("a", "b", "c"), ["a", "b"], ("a", 1), ("a", None), (), None, "ab"):
            for place in (0, 1, 30, 59):
                rows = good[:place] + (wrong,) + good[place + 1:]
                self.assertIs(is_page(rows), False)
                self.assertIs(is_table(rows), False)


class MeaningTest(unittest.TestCase):

    def test_the_example(self):
        self.assertEqual(filled(PAGE), TABLE)
        self.assertEqual(blanks_of(PAGE), [0, 2, 2, 1, 0])
        self.assertEqual(cells_of(PAGE), 10)

    def test_all_small_pages(self):
        for page in samples.small_pages():
            table = filled(page)
            self.assertEqual(table, tuple(samples.meaning(page)))
            self.assertIs(is_table(table), True)
            self.assertEqual(blanks_of(page), samples.blank_counts(page))
            self.assertEqual(cells_of(page), sum(cell is not None for row in page for cell in row))

    def test_kinds(self):
        for page in (PAGE, samples.long_page()):
            self.assertIs(type(filled(page)), tuple)
            self.assertEqual({type(row) for row in filled(page)}, {tuple})
            self.assertIs(type(blanks_of(page)), list)
            self.assertIs(type(cells_of(page)), int)

    def test_a_row_that_is_all_blanks(self):
        page = (("a", "b"), (None, None), (None, "c"), (None, None))
        self.assertEqual(filled(page), (("a", "b"), ("a", "b"), ("a", "c"), ("a", "c")))
        self.assertEqual(blanks_of(page), [0, 2, 1, 2])
        self.assertEqual(cells_of(page), 3)

    def test_fewer_blanks_than_shared(self):
        page = (("a", "b", "c"), ("a", "b", "d"), (None, "b", "e"))
        self.assertEqual(filled(page), (("a", "b", "c"), ("a", "b", "d"), ("a", "b", "e")))
        self.assertEqual(blanks_of(page), [0, 0, 1])

    def test_the_largest_page(self):
        page = (("a",) * 6,) + ((None,) * 6,) * 59
        self.assertEqual(filled(page), (("a",) * 6,) * 60)
        self.assertEqual((blanks_of(page), cells_of(page)), ([0] + [6] * 59, 6))

    def test_no_page(self):
        for value in samples.NO_ROWS:
            for function in (filled, blanks_of, cells_of, page_number):
                with self.subTest(repr(value)[:80]), self.assertRaises(InvalidPage):
                    function(value)


class SharedTest(unittest.TestCase):

    def test_the_example(self):
        self.assertEqual(shared(TABLE), [0, 2, 2, 1, 0])
        self.assertEqual(printed(TABLE), PAGE)

    def test_values_count_from_the_first_one_on(self):
        table = (("a", "b", "c"), ("x", "b", "c"), ("x", "y", "c"), ("x", "y", "z"), ("x", "y", "z"))
        self.assertEqual(shared(table), [0, 0, 1, 2, 3])

    def test_only_the_row_directly_above_counts(self):
        self.assertEqual(shared((("a", "b"), ("c", "d"), ("a", "b"))), [0, 0, 0])

    def test_values_are_compared_whole(self):
        self.assertEqual(shared((("ab", "c"), ("a", "bc"), ("abc", "c"))), [0, 0, 0])

    def test_all_small_tables(self):
        for table in samples.small_tables():
            above = [samples.common(table[row - 1], table[row]) for row in range(1, len(table))]
            self.assertEqual(shared(table), [0] + above)
            page = printed(table)
            self.assertIs(is_page(page), True)
            self.assertEqual(filled(page), table)
            self.assertEqual(blanks_of(page), shared(table))

    def test_kinds(self):
        self.assertIs(type(shared(TABLE)), list)
        self.assertIs(type(printed(TABLE)), tuple)
        self.assertEqual({type(row) for row in printed(TABLE)}, {tuple})

    def test_one_row(self):
        self.assertEqual((shared((("a", "b"),)), printed((("a", "b"),))), ([0], (("a", "b"),)))

    def test_no_table(self):
        for value in samples.NO_ROWS + samples.WITH_BLANKS:
            for function in (shared, printed, count_pages):
                with self.subTest(repr(value)[:80]), self.assertRaises(InvalidTable):
                    function(value)


class NumberedPagesTest(unittest.TestCase):

    def test_the_example(self):
        self.assertEqual((count_pages(TABLE), page_number(PAGE)), (18, 17))
        self.assertEqual(nth_page(TABLE, 17), PAGE)
        self.assertEqual(nth_page(TABLE, 0), TABLE)
        self.assertEqual(nth_page(TABLE, 1), TABLE[:3] + ((None, "rome", "1"), TABLE[4]))

    def test_all_pages_of_small_tables(self):
        for table in samples.small_tables():
            pages = sorted(samples.pages_meaning(table), key=samples.blank_counts)
            self.assertEqual(count_pages(table), len(pages))
            self.assertEqual([nth_page(table, number) for number in range(len(pages))], pages)
            self.assertEqual([page_number(page) for page in pages], list(range(len(pages))))

    def test_the_first_one_has_no_blank_and_the_last_one_has_most(self):
        for table in samples.small_tables():
            self.assertEqual(nth_page(table, 0), table)
            self.assertEqual(nth_page(table, count_pages(table) - 1), printed(table))

    def test_numbers_far_beyond_what_can_be_gone_through(self):
        table = (("a",) * 6,) * 60
        count = 7 ** 59
        self.assertEqual(count_pages(table), count)
        self.assertEqual(nth_page(table, count - 1), (("a",) * 6,) + ((None,) * 6,) * 59)
        self.assertEqual(nth_page(table, 1), (("a",) * 6,) * 59 + ((None, "a", "a", "a", "a", "a"),))
        self.assertEqual(nth_page(table, 7 ** 58), (("a",) * 6, (None,) + ("a",) * 5) + (("a",) * 6,) * 58)
        for number in (0, 1, 7 ** 58 - 1, count // 3, 5 ** 80 // 3 % count, count - 2, count - 1):
            self.assertEqual(page_number(nth_page(table, number)), number)

    def test_a_long_page(self):
        page = samples.long_page()
        table = filled(page)
        self.assertEqual(nth_page(table, page_number(page)), page)
        number = page_number(page)
        near = [nth_page(table, number + step) for step in (-2, -1, 0, 1, 2)]
        self.assertEqual(near, sorted(near, key=samples.blank_counts))
        self.assertEqual([filled(other) for other in near], [table] * 5)
        self.assertEqual([page_number(other) - number for other in near], [-2, -1, 0, 1, 2])

    def test_kinds(self):
        page = nth_page(TABLE, 3)
        self.assertIs(type(page), tuple)
        self.assertEqual({type(row) for row in page}, {tuple})
        self.assertEqual((type(count_pages(TABLE)), type(page_number(PAGE))), (int, int))

    def test_no_number(self):
        for table in (TABLE, (("a",),), (("a",), ("a",))):
            count = count_pages(table)
            for value in samples.NO_NUMBERS + (count, count + 1, 10 ** 99):
                with self.subTest(repr(value)[:80]), self.assertRaises(InvalidNumber):
                    nth_page(table, value)

    def test_a_wrong_table_comes_ahead_of_a_wrong_number(self):
        for value in samples.NO_ROWS + samples.WITH_BLANKS:
            for number in (0, -1, None, True, 10 ** 99):
                with self.subTest(repr(value)[:80]), self.assertRaises(InvalidTable):
                    nth_page(value, number)


if __name__ == "__main__":
    unittest.main()
