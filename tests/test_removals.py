"""[16]: the rows that can stay alone."""

import unittest
from itertools import combinations

from dittorows.errors import InvalidNumber, InvalidPage, InvalidStays, Loose
from dittorows.pages import printed
from dittorows.removals import count_safe, fewest_staying, is_safe, nth_safe, safe_number
from tests import samples
from tests.samples import PAGE

# Thirty times a full row and one that needs a row of its own group ahead of it.
PAIRS = tuple(("v" + str(row // 2), "x") if row % 2 == 0 else (None, "y") for row in range(60))
EQUAL = (("a",) * 6,) + ((None,) * 6,) * 59
FULL = tuple(("v" + str(row % 7), "x") for row in range(60))
LARGE = (samples.long_page(), printed(samples.long_table()), PAIRS, EQUAL, FULL)


def some_pages():
    """Small pages, and some of eight and nine rows in which rows far apart can stand for each other."""
    long = samples.long_page()
    rows = (("a", "x", "1"), (None, None, "2"), (None, "y", "1"), ("a", "x", "3"), (None, None, "4"), ("b", "x", "1"),
            ("a", "y", "5"), (None, None, "1"), (None, None, None))
    return samples.small_pages() + [long[:9], long[:1] + long[21:29], rows, rows[:8], rows[5:]]


def fewest_rows(page, stays):
    """How many rows safe stays with these rows have at least, counted from the last row to the first one."""
    table = samples.meaning(page)
    blanks = samples.blank_counts(page)
    need = {stays[-1]: 1}
    for row in range(stays[-1] - 1, -1, -1):
        stop = min(stay for stay in stays if stay > row)
        need[row] = 1 + min(need[other] for other in range(row + 1, stop + 1)
                            if samples.common(table[row], table[other]) >= blanks[other])
    return min(need[row] for row in range(stays[0] + 1) if blanks[row] == 0)


class IsSafeTest(unittest.TestCase):

    def test_the_example(self):
        self.assertIs(is_safe(PAGE, (0, 2, 3)), True)
        self.assertIs(is_safe(PAGE, (1, 2)), False)

    def test_all_stays_of_some_pages(self):
        for page in some_pages():
            safe = samples.safe_stays(page)
            for stays in samples.all_stays(len(page)):
                self.assertIs(is_safe(page, stays), stays in safe)

    def test_all_rows_and_one_row(self):
        for page in (PAGE,) + LARGE:
            self.assertIs(is_safe(page, tuple(range(len(page)))), True)
            for row in range(len(page)):
                self.assertIs(is_safe(page, (row,)), None not in page[row])

    def test_other_rows_can_stand_for_those_that_are_removed(self):
        page = (("a", "b"), ("c", "d"), (None, "e"), ("c", "f"), (None, None), (None, "e"))
        self.assertIs(is_safe(page, (1, 5)), True)
        self.assertIs(is_safe(page, (0, 2)), False)
        self.assertIs(is_safe(page, (2, 3)), False)
        self.assertIs(is_safe(page, (3, 4)), True)
        self.assertIs(is_safe(page, (1, 4)), False)

    def test_a_table_loses_any_rows(self):
        for stays in samples.all_stays(5):
            self.assertIs(is_safe(samples.TABLE, stays), True)

    def test_no_stays(self):
        for value in samples.NO_STAYS:
            for function in (is_safe, safe_number, fewest_staying):
                with self.subTest(repr(value)[:80]), self.assertRaises(InvalidStays):
                    function(PAGE, value)

    def test_no_stays_of_one_row_and_of_sixty(self):
        for page in ((("a",),), (("a", "b", "c", "d", "e", "f"),)) + LARGE:
            many = len(page)
            for value in ((many,), (0, many), (-1,), (), (0, 0), tuple(range(many + 1)), tuple(range(many)) + (0,), [0]):
                for function in (is_safe, safe_number, fewest_staying):
                    with self.subTest(value), self.assertRaises(InvalidStays):
                        function(page, value)

    def test_a_wrong_page_comes_ahead_of_wrong_stays(self):
        for value in samples.NO_ROWS:
            for stays in ((0,), (), (1, 0), None, 0, [0], (True,)):
                for function in (is_safe, safe_number, fewest_staying):
                    with self.subTest(repr(value)[:80]), self.assertRaises(InvalidPage):
                        function(value, stays)


class NumberedStaysTest(unittest.TestCase):

    def test_the_example(self):
        self.assertEqual((count_safe(PAGE), nth_safe(PAGE, 2), safe_number(PAGE, (4,))), (17, (0, 1, 2), 16))
        self.assertEqual([nth_safe(PAGE, number) for number in (0, 1, 3, 16)], [(0,), (0, 1), (0, 1, 2, 3), (4,)])

    def test_all_safe_stays_of_some_pages(self):
        for page in some_pages():
            safe = samples.safe_stays(page)
            self.assertEqual(count_safe(page), len(safe))
            self.assertEqual([nth_safe(page, number) for number in range(len(safe))], safe)
            self.assertEqual([safe_number(page, stays) for stays in safe], list(range(len(safe))))

    def test_sixty_rows_without_blanks(self):
        self.assertEqual(count_safe(FULL), 2 ** 60 - 1)
        self.assertEqual([nth_safe(FULL, number) for number in range(60)], [tuple(range(row + 1)) for row in range(60)])
        self.assertEqual(nth_safe(FULL, 2 ** 60 - 2), (59,))
        self.assertEqual([safe_number(FULL, (row,)) for row in (0, 1, 2)], [0, 2 ** 59, 2 ** 59 + 2 ** 58])

    def test_sixty_equal_rows_that_are_blank(self):
        self.assertEqual(count_safe(EQUAL), 2 ** 59)
        self.assertEqual(nth_safe(EQUAL, 2 ** 59 - 1), (0, 59))
        self.assertEqual(safe_number(EQUAL, (0, 2)), 2 ** 58 + 1)

    def test_thirty_pairs(self):
        self.assertEqual(count_safe(PAIRS), 3 ** 30 - 1)
        self.assertEqual(nth_safe(PAIRS, 3 ** 30 - 2), (58, 59))
        self.assertEqual(safe_number(PAIRS, (2,)), 2 * 3 ** 29)

    def test_large_pages(self):
        for page in LARGE:
            count = count_safe(page)
            self.assertGreater(count, 10 ** 9)
            near = [3 ** 200 // 2 % count + step for step in range(-2, 3)]
            numbers = sorted([0, 1, 2, count // 7, count // 3, count - 2, count - 1] + near)
            found = [nth_safe(page, number) for number in numbers]
            self.assertEqual([is_safe(page, stays) for stays in found], [True] * len(numbers))
            self.assertEqual(found, sorted(found))
            self.assertEqual([safe_number(page, stays) for stays in found], numbers)
            for value in (-1, count, count + 1):
                self.assertRaises(InvalidNumber, nth_safe, page, value)

    def test_one_row(self):
        for page in ((("a",),), (("a", "b", "c", "d", "e", "f"),)):
            self.assertEqual((count_safe(page), nth_safe(page, 0), safe_number(page, (0,))), (1, (0,), 0))

    def test_kinds(self):
        self.assertIs(type(nth_safe(PAGE, 2)), tuple)
        self.assertEqual({type(row) for row in nth_safe(PAGE, 2)}, {int})
        self.assertEqual((type(count_safe(PAGE)), type(safe_number(PAGE, (0,)))), (int, int))

    def test_no_number(self):
        for page in (PAGE, (("a",),), (("a",), (None,))):
            count = count_safe(page)
            for value in samples.NO_NUMBERS + (count, count + 1, 10 ** 99):
                with self.subTest(repr(value)[:80]), self.assertRaises(InvalidNumber):
                    nth_safe(page, value)

    def test_stays_that_are_not_safe(self):
        for page in samples.small_pages():
            safe = samples.safe_stays(page)
            for stays in samples.all_stays(len(page)):
                if stays not in safe:
                    with self.assertRaises(Loose):
                        safe_number(page, stays)

    def test_no_page(self):
        for value in samples.NO_ROWS:
            with self.subTest(repr(value)[:80]):
                self.assertRaises(InvalidPage, count_safe, value)
                for number in (0, -1, None, True):
                    self.assertRaises(InvalidPage, nth_safe, value, number)


class FewestStayingTest(unittest.TestCase):

    def test_the_example(self):
        self.assertEqual(fewest_staying(PAGE, (3, 4)), (0, 3, 4))

    def test_no_smaller_safe_stays_hold_all_the_rows(self):
        for page in some_pages():
            safe = [(stays, set(stays)) for stays in samples.safe_stays(page)]
            for stays in samples.all_stays(len(page)):
                holding = [other for other, rows in safe if rows.issuperset(stays)]
                found = fewest_staying(page, stays)
                self.assertIn(found, holding)
                self.assertEqual(len(found), min(len(other) for other in holding))

    def test_safe_stays_stay_as_they_are(self):
        for page in (PAGE, PAIRS[:8]):
            for stays in samples.safe_stays(page):
                self.assertEqual(fewest_staying(page, stays), stays)

    def test_the_row_directly_above_is_not_always_enough(self):
        page = (("a", "x", "1"), (None, None, "2"), (None, "y", "1"), (None, None, "2"), (None, "x", "3"))
        self.assertEqual(fewest_staying(page, (3,)), (0, 2, 3))
        self.assertEqual(fewest_staying(page, (4,)), (0, 4))
        self.assertEqual(fewest_staying(page, (1, 3)), (0, 1, 2, 3))

    def test_a_far_row_can_do_with_fewer_than_the_near_ones(self):
        page = (("a", "x"), ("b", "x"), (None, "y"), (None, "z"), ("c", "x"), ("b", "w"), (None, "v"))
        self.assertEqual(len(fewest_staying(page, (6,))), 2)
        self.assertEqual(fewest_staying(page, (3,)), (1, 3))

    def test_a_row_between_two_that_stay(self):
        page = (("a", "x"), (None, "y"), ("b", "x"), ("a", "z"), (None, "w"))
        self.assertEqual(fewest_staying(page, (1, 2, 4)), (0, 1, 2, 3, 4))
        self.assertEqual(fewest_staying(page, (1, 4)), (0, 1, 4))

    def test_all_rows_and_one_row(self):
        for page in (PAGE, (("a",),)) + LARGE:
            every = tuple(range(len(page)))
            self.assertEqual(fewest_staying(page, every), every)
            self.assertEqual(fewest_staying(page, (0,)), (0,))

    def test_large_pages(self):
        self.assertEqual(fewest_staying(PAIRS, tuple(range(1, 60, 2))), tuple(range(60)))
        self.assertEqual(fewest_staying(EQUAL, (58, 59)), (0, 58, 59))
        self.assertEqual(fewest_staying(FULL, (3, 59)), (3, 59))
        for page in LARGE:
            for stays in list(combinations(range(0, 60, 7), 2)) + [(row,) for row in range(60)] + [(5, 17, 18, 44, 59)]:
                found = fewest_staying(page, stays)
                self.assertIs(is_safe(page, found), True)
                self.assertEqual(set(stays) - set(found), set())
                self.assertEqual(len(found), fewest_rows(page, stays))

    def test_equal_calls_return_equal_results(self):
        for page in LARGE:
            copied = tuple([tuple(list(row)) for row in page])
            for row in range(60):
                self.assertEqual(fewest_staying(page, (row,)), fewest_staying(copied, (row,)))

    def test_kinds(self):
        self.assertIs(type(fewest_staying(PAGE, (3, 4))), tuple)
        self.assertEqual({type(row) for row in fewest_staying(PAGE, (3, 4))}, {int})


if __name__ == "__main__":
    unittest.main()
