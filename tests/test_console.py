"""[20]: lines, their answers, and what raises InvalidCommand."""

import unittest
from itertools import product
from random import Random

from dittorows.console import Console
from dittorows.errors import (DittoError, InvalidCells, InvalidColumn, InvalidCommand, InvalidCount, InvalidPage,
                              InvalidPlace, InvalidRow, Loose, NothingToUndo, TooFew, TooMany)
from dittorows.groups import fewest_cells
from dittorows.orders import count_orders, sort_order
from dittorows.sheets import Sheet
from tests import samples
from tests.models import random_page, random_step, Model
from tests.samples import PAGE, TABLE

ABC = "page a,x ,y b,x"
ASKING = ("rows", "read", "true", "wrong", "orders", "fewest", "sort 0", "sort 1")
# How many numbers and rows stand behind each word but page.
FORMS = {
    "move": ("N", "N", "N"), "insert": ("N", "ROW"), "write": ("N", "N"), "undo": (), "remove": ("N",), "repair": (),
    "adopt": (), "wrong": (), "rows": (), "read": (), "true": (), "orders": (), "fewest": (), "sort": ("N",),
}
GOOD = {"N": "0", "ROW": "c,z"}


def console_with(*lines):
    console = Console()
    for line in lines:
        console.execute(line)
    return console


def line_for(row, blank=""):
    return ",".join(blank if cell is None else cell for cell in row)


def page_line(page):
    return " ".join(["page"] + [line_for(row) for row in page])


def line_of_step(name, arguments):
    return " ".join([name] + [line_for(word) if isinstance(word, tuple) else str(word) for word in arguments])


def spaced(items):
    return " ".join(str(item) for item in items) or "."


def answers(console):
    """What a console answers to all questions, an error by its class."""
    found = []
    for line in ASKING:
        try:
            found.append(console.execute(line))
        except DittoError as error:
            found.append(type(error))
    return found


def answers_of(sheet):
    """What a console with this sheet has to answer to all questions."""
    found = [" ".join(line_for(row) for row in sheet.cells_now), " ".join(line_for(row, "?") for row in sheet.read_now),
             " ".join(line_for(row) for row in sheet.true_now), spaced(sheet.wrong())]
    found.append(value_of(lambda: str(count_orders(sheet.cells_now))))
    found.append(str(fewest_cells(tuple(sheet.true_now))))
    found += [value_of(lambda: spaced(sort_order(sheet.cells_now, column))) for column in (0, 1)]
    return found


def value_of(ask):
    try:
        return ask()
    except DittoError as error:
        return type(error)


class ConsoleCase(unittest.TestCase):

    def assert_raises(self, error, console, line):
        """A line that raises changes nothing."""
        before = answers(console)
        with self.assertRaises(error) as caught:
            console.execute(line)
        self.assertIs(type(caught.exception), error)
        self.assertEqual(answers(console), before)


class LinesTest(ConsoleCase):

    def test_each_line(self):
        console = console_with(page_line(PAGE))
        for line, answer in (
                ("rows", "ann,oslo,1 ,,2 ,,3 ,rome,1 bob,rome,1"),
                ("read", "ann,oslo,1 ann,oslo,2 ann,oslo,3 ann,rome,1 bob,rome,1"),
                ("true", "ann,oslo,1 ann,oslo,2 ann,oslo,3 ann,rome,1 bob,rome,1"),
                ("wrong", "."), ("orders", "4"), ("fewest", "10"), ("sort 1", "0 3 4 1 2"), ("sort 0", "0 4 1 2 3"),
                ("move 1 2 2", "ok"), ("rows", "ann,oslo,1 ,rome,1 ,,2 ,,3 bob,rome,1"), ("wrong", "2 3"),
                ("read", "ann,oslo,1 ann,rome,1 ann,rome,2 ann,rome,3 bob,rome,1"), ("repair", "1"), ("repair", "0"),
                ("rows", "ann,oslo,1 ,rome,1 ,oslo,2 ,,3 bob,rome,1"), ("undo", "ok"), ("undo", "ok"), ("adopt", "2 3"),
                ("adopt", "."), ("true", "ann,oslo,1 ann,rome,1 ann,rome,2 ann,rome,3 bob,rome,1"), ("wrong", "."),
                ("undo", "ok"), ("undo", "ok"), ("wrong", "2 3"), ("undo", "ok"), ("rows", "ann,oslo,1 ,,2 ,,3 ,rome,1 bob,rome,1"),
                ("write 2 1", "ok"), ("rows", "ann,oslo,1 ,,2 ,oslo,3 ,rome,1 bob,rome,1"), ("write 2 0", "ok"),
                ("rows", "ann,oslo,1 ,,2 ann,oslo,3 ,rome,1 bob,rome,1"), ("remove 1", "ann,oslo,2"),
                ("insert 1 ,,7", "ok"), ("insert 5 ,,", "ok"), ("rows", "ann,oslo,1 ,,7 ann,oslo,3 ,rome,1 bob,rome,1 ,,"),
                ("true", "ann,oslo,1 ann,oslo,7 ann,oslo,3 ann,rome,1 bob,rome,1 bob,rome,1")):
            with self.subTest(line):
                self.assertEqual(console.execute(line), answer)

    def test_a_cell_that_means_nothing(self):
        console = console_with("page a,b,c ,,d e,f,g", "move 1 1 0")
        self.assertEqual(console.execute("read"), "?,?,d a,b,c e,f,g")
        self.assertEqual(console.execute("rows"), ",,d a,b,c e,f,g")
        self.assertEqual(console.execute("true"), "a,b,d a,b,c e,f,g")
        self.assertEqual(console.execute("write 0 1"), "ok")
        self.assertEqual(console.execute("read"), "?,b,d a,b,c e,f,g")
        self.assert_raises(Loose, console, "adopt")
        self.assertEqual(console.execute("remove 0"), "a,b,d")

    def test_a_page_is_a_new_sheet(self):
        console = console_with(ABC, "move 0 0 2", "page b,y b,z")
        self.assertEqual(answers(console), answers_of(Sheet((("b", "y"), ("b", "z")))))
        self.assert_raises(NothingToUndo, console, "undo")

    def test_orders_beyond_counting(self):
        console = console_with("page " + " ".join(["a"] * 60))
        product_of_all = 1
        for many in range(1, 61):
            product_of_all *= many
        self.assertEqual(console.execute("orders"), str(product_of_all))

    def test_one_row_and_sixty_of_one_cell_and_six(self):
        for many, width in product((1, 60), (1, 6)):
            page = ((("a",) * width,) + (("b",) * width,) * 59)[:many]
            console = Console()
            self.assertEqual(console.execute(page_line(page)), "ok")
            self.assertEqual(answers(console), answers_of(Sheet(page)))
            if many == 1:
                self.assert_raises(TooFew, console, "remove 0")
            else:
                self.assert_raises(TooMany, console, "insert 0 " + ",".join("a" * width))

    def test_two_consoles_have_a_sheet_each(self):
        one, other = console_with(ABC), console_with(ABC)
        one.execute("move 0 0 2")
        self.assertEqual(answers(other), answers_of(Sheet((("a", "x"), (None, "y"), ("b", "x")))))
        self.assert_raises(NothingToUndo, other, "undo")

    def test_answers_are_strings(self):
        console = console_with(ABC, "move 0 0 2")
        for line in ASKING[:4] + ("fewest", "repair", "orders", "sort 0", "adopt", "write 0 0", "remove 0", "insert 0 q,q",
                                  "move 0 0 0", "undo", ABC):
            self.assertIs(type(console.execute(line)), str)


class InvalidCommandTest(ConsoleCase):

    def assert_no_line(self, line):
        """A value that is no line raises InvalidCommand, with a sheet and without one."""
        console = Console()
        with self.assertRaises(InvalidCommand):
            console.execute(line)
        self.assert_raises(InvalidCommand, console, "rows")
        for console in (console_with(ABC, "move 0 0 2"), console_with("page " + " ".join(["a,x"] * 60))):
            self.assert_raises(InvalidCommand, console, line)

    def test_other_values(self):
        for value in samples.STRANGE + (0, 1, True, False, ["rows"], ("rows",), b"rows", {"rows": 1}, [ABC], Console(),
                                        ("page", "a,x"), Sheet(PAGE), PAGE):
            with self.subTest(type(value)):
                self.assert_no_line(value)

    def test_other_words(self):
        for word in ("", "Page", "PAGE", "pages", "rowss", "row", "Rows", "help", "0", "a,x", ",", ".", "?", "ok", "execute",
                     "_sheet", "__init__", "cells_now", "copy_of", "len", "pag", "un", "sort_order", "page,a", "\n", "a" * 4000):
            for rest in ("", " 0", " 0 0", " 0 0 0", " a,x", " 0 a,x"):
                self.assert_no_line(word + rest)

    def test_every_line_but_page_without_a_sheet(self):
        for word, kinds in FORMS.items():
            line = " ".join([word] + [GOOD[kind] for kind in kinds])
            console = Console()
            for _ in range(2):
                with self.assertRaises(InvalidCommand):
                    console.execute(line)
            console.execute(ABC)
            try:
                console.execute(line)
            except NothingToUndo:
                self.assertEqual(word, "undo")

    def test_a_page_that_is_none_leaves_a_console_without_a_sheet(self):
        console = Console()
        for line, error in (("page ,x", InvalidPage), ("page", InvalidCommand), ("page A", InvalidCommand)):
            with self.assertRaises(error):
                console.execute(line)
            with self.assertRaises(InvalidCommand):
                console.execute("rows")
        self.assertEqual(console.execute(ABC), "ok")

    def test_too_few_words_too_many_and_words_of_another_kind(self):
        for word, kinds in FORMS.items():
            for many in range(0, 5):
                for given in product(("N", "ROW"), repeat=many):
                    # a number is the line of a printed row, too
                    if given != kinds and (word, given) != ("insert", ("N", "N")):
                        self.assert_no_line(" ".join([word] + [GOOD[kind] for kind in given]))

    def test_a_number_in_place_of_a_row_is_a_row(self):
        console = console_with("page 0 00 1 0123")
        self.assertEqual(console.execute("insert 4 007"), "ok")
        self.assertEqual(console.execute("read"), "0 00 1 0123 007")
        self.assert_raises(InvalidCells, console_with(ABC), "insert 0 0")

    def test_empty_words(self):
        for word, kinds in FORMS.items():
            words = [word] + [GOOD[kind] for kind in kinds]
            for place in range(len(words) + 1):
                self.assert_no_line(" ".join(words[:place] + [""] + words[place:]))
                self.assert_no_line(" ".join(words[:place] + ["", ""] + words[place:]))
        for line in ("page ", "page  a,x", "page a,x ", " page a,x", "page a,x  b,x", "page  ", " ", "  "):
            self.assert_no_line(line)

    def test_other_signs_between_words(self):
        for sign in ("\t", "\n", "\r", "\v", "\u00a0", "\u2003", ";", "_", "  ", " \n"):
            for line in ("move 0 0 0", "insert 0 c,z", "remove 0", "page a,x b,x"):
                self.assert_no_line(line.replace(" ", sign))
            for line in ("rows", "undo", "remove 0", "page a,x", "insert 0 c,z"):
                self.assert_no_line(line + sign)
                self.assert_no_line(sign + line)

    def test_numbers_in_other_forms(self):
        for wrong in ("00", "01", "000", "+0", "+1", "-0", "-1", "1_0", "0x0", "0.0", "1e0", "zero", "\u0660", "\u0661", "\u00b9",
                      "\uff10", "0,", ",", "0\n", "\n0", "\t0", "?", "None", "True", "0" * 40, "9" * 41, "1" + "0" * 40,
                      "0" * 41, "9" * 3900):
            for word, kinds in FORMS.items():
                for place, kind in enumerate(kinds):
                    if kind == "N":
                        words = [GOOD[kind] for kind in kinds]
                        words[place] = wrong
                        self.assert_no_line(" ".join([word] + words))

    def test_each_sign_as_a_number_and_as_a_row(self):
        console = console_with("page a b c")
        for sign in [chr(code) for code in range(0, 300)] + ["\u0661", "\uff11", "\u2460"]:
            if sign not in "0123456789":
                self.assert_raises(InvalidCommand, console, "remove " + sign)
                self.assert_raises(InvalidCommand, console, "remove 0" + sign)
            if sign not in "abcdefghijklmnopqrstuvwxyz0123456789":
                self.assert_raises(InvalidCommand, console, "insert 0 a" + sign)

    def test_forty_digits(self):
        for number in ("9" * 40, "1" + "0" * 39, "12345678" * 5):
            console = console_with(ABC)
            for line, error in (("move {} 0 0", InvalidRow), ("move 0 {} 0", InvalidRow), ("move 0 0 {}", InvalidPlace),
                                ("remove {}", InvalidRow), ("insert {} c,z", InvalidPlace), ("write {} 0", InvalidRow),
                                ("write 1 {}", InvalidCount), ("sort {}", InvalidColumn)):
                self.assert_raises(error, console, line.format(number))
                self.assert_raises(InvalidCommand, console, line.format(number + "0"))

    def test_rows_in_other_forms(self):
        for wrong in ("A", "a,X", "a,", "a,,b", ",a,", "a,b,c,d,e,f,g", ",,,,,,", "a" * 9, "a," + "b" * 9, "a;b", "a\n", "\n",
                      "a,b\n", "a\nb", "?", "?,a", "a,?", "\u0661", "a,\u00e9", "-", "a-b", "," * 300, "a\t"):
            for line in ("page {}", "page a,x {}", "page {} a,x", "insert 0 {}", "insert 1 {}", "insert 999 {}"):
                self.assert_no_line(line.format(wrong))


class ErrorsTest(ConsoleCase):

    def test_no_page(self):
        for console in (console_with(ABC, "move 0 0 2"), console_with(ABC)):
            for line in ("page ,x", "page ,x a,x", "page ,", "page ,,,,,", "page a,x b", "page b a,x", "page a ,x", "page a,x b,y,z",
                         "page " + " ".join(["a"] * 61), "page " + " ".join(["a,x"] * 300)):
                self.assert_raises(InvalidPage, console, line)
        console = console_with(ABC, "move 0 0 2")
        self.assert_raises(InvalidPage, console, "page ,x")
        self.assertEqual(console.execute("undo"), "ok")
        self.assertEqual(console.execute("rows"), "a,x ,y b,x")

    def test_a_word_that_is_no_row_comes_ahead_of_rows_that_are_no_page(self):
        for line in ("page ,x A", "page a b,c X", "page " + " ".join(["a"] * 61 + ["a,"])):
            self.assert_raises(InvalidCommand, console_with(ABC), line)

    def test_errors_of_the_methods(self):
        for line, error in (
                ("move 3 3 0", InvalidRow), ("move 0 3 0", InvalidRow), ("move 2 1 0", InvalidRow), ("move 0 0 3", InvalidPlace),
                ("move 0 2 1", InvalidPlace), ("move 3 9 9", InvalidRow), ("move 0 9 9", InvalidRow), ("remove 3", InvalidRow),
                ("insert 4 a,x", InvalidPlace), ("insert 4 a", InvalidPlace), ("insert 0 a", InvalidCells),
                ("insert 0 a,b,c", InvalidCells), ("insert 3 ,,", InvalidCells), ("insert 0 ,x", Loose), ("insert 0 ,", Loose),
                ("write 3 0", InvalidRow), ("write 0 1", InvalidCount), ("write 1 2", InvalidCount), ("sort 2", InvalidColumn)):
            console = console_with(ABC, "move 0 0 0")
            with self.subTest(line):
                self.assert_raises(error, console, line)
                self.assertEqual(console.execute("undo"), "ok")
                self.assert_raises(NothingToUndo, console, "undo")

    def test_orders_and_sort_of_rows_that_are_no_page(self):
        console = console_with(ABC, "move 1 1 0")
        for line in ("orders", "sort 0", "sort 1", "sort 2", "sort " + "9" * 40):
            self.assert_raises(InvalidPage, console, line)
        self.assertEqual(console.execute("fewest"), "5")
        console.execute("repair")
        self.assertEqual((console.execute("orders"), console.execute("sort 0")), ("6", "0 1 2"))

    def test_too_few_and_too_many(self):
        console = console_with("page a")
        self.assert_raises(TooFew, console, "remove 0")
        for many in range(59):
            self.assertEqual(console.execute("insert 0 b"), "ok")
        self.assert_raises(TooMany, console, "insert 0 b")
        self.assert_raises(TooMany, console, "insert 60 b")
        self.assert_raises(InvalidPlace, console, "insert 61 b")


class ManyLinesTest(ConsoleCase):

    def do(self, sheet, name, arguments):
        """What a sheet answers to the line of an operation, or the class of its error."""
        try:
            answer = getattr(sheet, name)(*arguments)
        except DittoError as error:
            return type(error)
        if answer is None:
            return "ok"
        if isinstance(answer, tuple):
            return line_for(answer)
        return spaced(answer) if isinstance(answer, list) else str(answer)

    def test_many_lines_against_a_sheet(self):
        for seed in range(30):
            chance = Random(seed)
            page = random_page(chance)
            if len(page[0]) == 1:
                # a row of one blank is the empty line, which no line of a console holds
                page = tuple(samples.meaning(page))
            console, sheet, model = console_with(page_line(page)), Sheet(page), Model(page)
            for _ in range(60):
                name, arguments = ("undo", ()) if chance.randrange(5) == 0 else random_step(chance, model)
                if any(word == -1 for word in arguments) or () in arguments or (None,) in arguments:
                    continue
                if any(isinstance(word, tuple) and (len(word) > 6 or "A" in word or "abcdefghi" in word) for word in arguments):
                    self.assert_raises(InvalidCommand, console, line_of_step(name, arguments))
                    continue
                expected = self.do(sheet, name, arguments)
                if isinstance(expected, str):
                    self.assertEqual(console.execute(line_of_step(name, arguments)), expected)
                    model.do(name, arguments)
                else:
                    self.assert_raises(expected, console, line_of_step(name, arguments))
                self.assertEqual(answers(console), answers_of(sheet))

    def test_a_hundred_changing_lines(self):
        console, sheet = console_with(page_line(PAGE)), Sheet(PAGE)
        for number in range(50):
            first, place = number * 3 % 5, number * 7 % 5
            self.assertEqual(console.execute(f"move {first} {first} {place}"), "ok")
            sheet.move(first, first, place)
            self.assertEqual(answers(console), answers_of(sheet))
        for _ in range(50):
            self.assertEqual(console.execute("undo"), "ok")
        self.assertEqual(answers(console), answers_of(Sheet(PAGE)))
        self.assert_raises(NothingToUndo, console, "undo")
        self.assertEqual(TABLE, tuple(Sheet(PAGE).true_now))


if __name__ == "__main__":
    unittest.main()
