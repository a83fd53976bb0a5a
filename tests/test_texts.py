"""[19]: printed rows and orders as texts."""

import re
import unittest
from itertools import permutations, product

from dittorows.errors import InvalidLines, InvalidOrder, InvalidRows, InvalidText
from dittorows.texts import format_order, format_rows, parse_order, parse_rows
from tests import samples
from tests.samples import PAGE

LINE = re.compile("(,){0,5}([a-z0-9]{1,8}(,[a-z0-9]{1,8}){0,5})?")

NO_TEXTS = (None, 0, 1, True, False, b"", b"a", b"0", [], ["a"], ("a",), (), {}, {"a"}, object(), str, int, ["0", "1"],
            ("0 1",), (0, 1), 10 ** 99, bytearray(b"0"), range(1))


def cells_in(line):
    """The printed row with a line, by a pattern; None if there is none."""
    cells = tuple(cell or None for cell in line.split(","))
    return cells if LINE.fullmatch(line, 0) and "\n" not in line and 1 <= len(cells) <= 6 else None


def read_by_hand(text):
    """The rows with a text, or the index of the first wrong line."""
    rows = []
    for index, line in enumerate(re.split("\n", text)):
        row = cells_in(line)
        if row is None or len(row) != len((rows + [row])[0]) or index > 59:
            return index
        rows.append(row)
    return tuple(rows)


def all_rows(width):
    """Printed rows of a width with each number of blanks."""
    return [(None,) * blanks + tuple("abcdef"[blanks:width]) for blanks in range(width + 1)]


class FormatRowsTest(unittest.TestCase):

    def test_ordinary_rows(self):
        self.assertEqual(format_rows(PAGE), "ann,oslo,1\n,,2\n,,3\n,rome,1\nbob,rome,1")
        self.assertEqual(format_rows(((None, "x"), ("b", "y"))), ",x\nb,y")

    def test_rows_of_blanks(self):
        self.assertEqual(format_rows(((None,),)), "")
        self.assertEqual(format_rows(((None,), ("a",), (None,))), "\na\n")
        self.assertEqual(format_rows(((None,),) * 60), "\n" * 59)
        self.assertEqual(format_rows(((None,) * 6,)), ",,,,,")

    def test_rows_of_each_width(self):
        for width in range(1, 7):
            for rows in [rows for many in (1, 2, 3) for rows in product(all_rows(width), repeat=many)]:
                text = format_rows(rows)
                self.assertEqual(text.split("\n"), [",".join(cell or "" for cell in row) for row in rows])
                self.assertEqual(parse_rows(text), rows)

    def test_any_other_value(self):
        for value in samples.NO_ROWS + NO_TEXTS:
            if value not in samples.BLANKS_FIRST + (((None, "a"), ("b", "c")), ((None, None), ("b", "c"))):
                with self.subTest(repr(value)[:80]), self.assertRaises(InvalidRows):
                    format_rows(value)

    def test_numbers_of_rows(self):
        for rows in ((("a", "b"),), ((None, "b"),), ((None, None),)):
            for many in (1, 2, 59, 60):
                self.assertEqual(parse_rows(format_rows(rows * many)), rows * many)
            for many in (0, 61, 62, 300):
                with self.assertRaises(InvalidRows):
                    format_rows(rows * many)


class ParseRowsTest(unittest.TestCase):

    def assert_read(self, text):
        found = read_by_hand(text)
        if isinstance(found, tuple):
            self.assertEqual(parse_rows(text), found)
            self.assertEqual(format_rows(found), text)
        else:
            self.assert_wrong(text, found)

    def assert_wrong(self, text, index):
        with self.assertRaises(InvalidLines) as caught:
            parse_rows(text)
        self.assertEqual((type(caught.exception), caught.exception.index), (InvalidLines, index))

    def test_all_short_texts(self):
        for many in range(0, 8):
            for signs in product("ab,\n", repeat=many):
                self.assert_read("".join(signs))
        for many in range(0, 5):
            for signs in product("a,\n AZ_%-\t", repeat=many):
                self.assert_read("".join(signs))

    def test_the_empty_text_and_the_empty_line(self):
        self.assertEqual(parse_rows(""), ((None,),))
        self.assertEqual(parse_rows("\n"), ((None,), (None,)))
        self.assertEqual(parse_rows("\na"), ((None,), ("a",)))

    def test_line_feeds_at_the_end(self):
        self.assertEqual(parse_rows("a\n"), (("a",), (None,)))
        self.assertEqual(parse_rows("a\n\n"), (("a",), (None,), (None,)))
        self.assert_wrong("a,b\n", 1)
        self.assert_wrong(",\n,\n", 2)
        self.assert_wrong("a,b\n\na,b", 1)

    def test_other_line_ends_are_no_line_ends(self):
        for sign in ("\r", "\r\n", "\v", "\f", "\x1c", "\x85", "\u2028", "\u2029"):
            self.assert_wrong("a" + sign + "b", 0)
            self.assert_wrong("a\nb" + sign, 1)

    def test_each_sign_within_a_cell(self):
        for sign in [chr(code) for code in range(0, 700)] + ["\u0661", "\uff41", "\u2460"]:
            if sign not in ",\n":
                good = sign in "abcdefghijklmnopqrstuvwxyz0123456789"
                for text, index, rows in (("a" + sign, 0, (("a" + sign,),)), ("a,b\n," + sign, 1, (("a", "b"), (None, sign)))):
                    if good:
                        self.assertEqual(parse_rows(text), rows)
                    else:
                        self.assert_wrong(text, index)

    def test_lengths_of_cells_and_rows(self):
        self.assertEqual(parse_rows("abcdefgh,12345678"), (("abcdefgh", "12345678"),))
        for text in ("abcdefghi", "a,abcdefghi", "a" * 4000, "a,b,c,d,e,f,g", ",,,,,,", ",,,,,,a", "," * 4000):
            self.assert_wrong(text, 0)
            self.assert_wrong("a\n" + text, 1)

    def test_spaces(self):
        for text in (" ", "a ", " a", "a, b", "a ,b", ", ", " ,", "a b"):
            self.assert_wrong(text, 0)

    def test_blanks_behind_values(self):
        for text in ("a,", "a,,b", ",a,", "a,,"):
            self.assert_wrong(text, 0)
            self.assert_wrong(",," + "\n" + text, 1)

    def test_another_number_of_cells_than_the_first_line(self):
        for first, other in permutations([",".join("abcdef"[:width]) for width in range(1, 7)], 2):
            self.assert_wrong(first + "\n" + other, 1)
            self.assert_wrong(first + "\n" + first + "\n" + other + "\n" + first, 2)

    def test_the_first_wrong_line_counts(self):
        lines = ["a,b", ",b", ",", "c,d"]
        for place, wrong in product(range(1, 4), ("a", "a,b,c", "A,b", "a,", " ", "")):
            for more in range(place + 1, 5):
                self.assert_wrong("\n".join(lines[:place] + [wrong] + lines[place:more] + ["X"]), place)

    def test_sixty_lines_and_sixty_one(self):
        for line in ("a", "", "a,b", ",", ",,,,,"):
            row = cells_in(line)
            self.assertEqual(parse_rows("\n".join([line] * 60)), (row,) * 60)
            self.assert_wrong("\n".join([line] * 61), 60)
            self.assert_wrong("\n".join([line] * 62), 60)
            self.assert_wrong("\n".join([line] * 60 + ["X"]), 60)
            self.assert_wrong("\n".join([line] * 61 + ["X"]), 60)
            self.assert_wrong("\n".join([line] * 59 + ["X", line]), 59)
        self.assert_wrong("\n" * 60, 60)
        self.assert_wrong("\n" * 4000, 60)
        self.assertEqual(parse_rows("\n" * 59), ((None,),) * 60)

    def test_no_string(self):
        for value in NO_TEXTS + samples.NO_NUMBERS:
            if not isinstance(value, str):
                with self.subTest(type(value)):
                    self.assert_wrong(value, None)

    def test_kinds(self):
        rows = parse_rows(",x\nb,y")
        self.assertEqual((type(rows), {type(row) for row in rows}), (tuple, {tuple}))
        self.assertIs(rows[0][0], None)
        self.assertIs(type(format_rows(rows)), str)


class FormatOrderTest(unittest.TestCase):

    def test_all_orders_of_a_few_rows(self):
        for many in range(1, 6):
            for order in permutations(range(many)):
                text = format_order(order)
                self.assertEqual(text.split(" "), [str(row) for row in order])
                self.assertEqual(parse_order(text), order)

    def test_orders_of_many_rows(self):
        for many in range(1, 61):
            order = tuple(range(many))[::-1]
            self.assertEqual(parse_order(format_order(order)), order)
            self.assertEqual(len(format_order(order)), many - 1 + min(many, 10) + 2 * max(many - 10, 0))

    def test_any_other_value(self):
        others = samples.NO_NUMBERS + NO_TEXTS + (
            (1,), (0, 0), (1, 2), (0, 2), (-1, 0), (0, 1, 1), (False,), (True, False), (0, True), (False, 1), ("0",),
            (0, "1"), (0, None), ((0,),), ([0],), [0], [1, 0], "0", "1 0", tuple(range(61)), tuple(range(300)),
            tuple(range(1, 61)), (0, 10 ** 99), (10 ** 99,), {0: 0}, {0}, ({},))
        for value in others:
            if repr(value) not in ("(0,)", "(0, 1)"):
                with self.subTest(repr(value)[:80]), self.assertRaises(InvalidOrder):
                    format_order(value)


class ParseOrderTest(unittest.TestCase):

    def test_all_short_texts(self):
        right = {" ".join(map(str, order)): order for many in range(1, 5) for order in permutations(range(many))}
        found = 0
        for many in range(0, 7):
            for signs in product("0123 ", repeat=many):
                text = "".join(signs)
                if text in right:
                    self.assertEqual(parse_order(text), right[text])
                    found += 1
                else:
                    with self.assertRaises(InvalidText):
                        parse_order(text)
        self.assertEqual(found, 1 + 2 + 6)
        for text, order in right.items():
            self.assertEqual(parse_order(text), order)

    def test_numbers_in_other_forms(self):
        good = [str(row) for row in range(12)]
        self.assertEqual(parse_order(" ".join(good)), tuple(range(12)))
        for place, wrong in product((0, 1, 10, 11), (
                "00", "01", "001", "010", "011", "+0", "+1", "+10", "-0", "-1", "1_0", "1_1", "0x1", "1.0", "1e0", "0b1",
                "one", "", " ", "\t", "1\t", "\n", "1\n", "11\n", "\n1", "1,", "\u0661", "\u00b9", "\uff11", "\u0661\u0661", "12",
                "60", "1" + "0" * 39, "1" + "0" * 40, "9" * 41, "0" * 41, "9" * 5000, "None", "True", "False")):
            with self.subTest(wrong[:50]), self.assertRaises(InvalidText):
                parse_order(" ".join(good[:place] + [wrong] + good[place + 1:]))

    def test_each_sign_in_a_number(self):
        for sign in [chr(code) for code in range(0, 700)] + ["\u0661", "\uff11", "\u2460", "\U0001d7cf"]:
            for text in (sign, "0 " + sign, sign + " 0", "0 1" + sign, "0 " + sign + "1"):
                right = {"0": (0,), "0 1": (0, 1), "1 0": (1, 0)}
                if text in right:
                    self.assertEqual(parse_order(text), right[text])
                elif text.strip("0123456789 "):
                    with self.subTest(repr(text)), self.assertRaises(InvalidText):
                        parse_order(text)

    def test_spaces(self):
        for text in ("", " ", "  ", " 0", "0 ", "0  1", " 0 1", "0 1 ", "0\t1", "0\n1", "0 1\n", "\n0 1", "0,1", "0\u00a01",
                     "0\r1", "01"):
            with self.subTest(repr(text)), self.assertRaises(InvalidText):
                parse_order(text)

    def test_sixty_numbers_and_sixty_one(self):
        numbers = [str(row) for row in range(300)]
        self.assertEqual(parse_order(" ".join(numbers[:60])), tuple(range(60)))
        for many in (61, 62, 300):
            with self.assertRaises(InvalidText):
                parse_order(" ".join(numbers[:many]))
        with self.assertRaises(InvalidText):
            parse_order(" ".join(numbers[:60] + ["0"]))
        with self.assertRaises(InvalidText):
            parse_order(" ".join(numbers[1:61]))

    def test_numbers_missing_or_twice(self):
        for text in ("1", "0 0", "1 1", "1 2", "0 2", "2 1", "0 1 1", "0 1 3", "1 2 3"):
            with self.subTest(text), self.assertRaises(InvalidText):
                parse_order(text)

    def test_no_string(self):
        for value in NO_TEXTS + samples.NO_NUMBERS + ((0,), [0], 0):
            if not isinstance(value, str):
                with self.subTest(type(value)), self.assertRaises(InvalidText):
                    parse_order(value)

    def test_kinds(self):
        self.assertEqual((type(parse_order("1 0")), {type(row) for row in parse_order("1 0")}), (tuple, {int}))
        self.assertIs(type(format_order((0,))), str)


if __name__ == "__main__":
    unittest.main()
