"""[2] and the head of the interface: names, parameters, arguments that stay as they are, new lists."""

import copy
import importlib
import inspect
import unittest

from dittorows import console, groups, objects, orders, pages, removals, repairs, sheets, texts
from dittorows.errors import DittoError
from tests import samples
from tests.samples import PAGE, TABLE

SIGNATURES = {
    "pages": {
        "is_page": "(value)", "is_table": "(value)", "filled": "(page)", "blanks_of": "(page)", "cells_of": "(page)",
        "shared": "(table)", "printed": "(table)", "count_pages": "(table)", "nth_page": "(table, number)",
        "page_number": "(page)",
    },
    "orders": {
        "keeps": "(page, order)", "read_in": "(page, order)", "wrong_rows": "(page, order)", "hosts_of": "(page, row)",
        "count_orders": "(page)", "nth_order": "(page, number)", "order_number": "(page, order)",
        "sort_order": "(page, column, *, blanks_last=True)",
    },
    "groups": {
        "beginnings_of": "(table)", "fewest_cells": "(table)", "is_grouped": "(table, order)", "grouped": "(table)",
        "count_grouped": "(table)", "nth_grouped": "(table, number)", "grouped_number": "(table, order)",
    },
    "repairs": {
        "fewest_to_write": "(page, order)", "written": "(page, order)", "shown_in": "(page, order)",
    },
    "removals": {
        "is_safe": "(page, stays)", "count_safe": "(page)", "nth_safe": "(page, number)",
        "safe_number": "(page, stays)", "fewest_staying": "(page, stays)",
    },
    "texts": {
        "format_rows": "(rows)", "parse_rows": "(text)", "format_order": "(order)", "parse_order": "(text)",
    },
}

# Each class with its methods; None is a property.
CLASSES = {
    "objects": {"Printed": {
        "__init__": "(self, rows)", "rows": None, "table": None, "__add__": "(self, other)", "__len__": "(self)",
        "__getitem__": "(self, at)", "__contains__": "(self, x)", "__eq__": "(self, other)", "__call__": "(self, order)",
    }},
    "sheets": {"Sheet": {
        "__init__": "(self, page)", "move": "(self, first, last, place)", "remove": "(self, row)",
        "insert": "(self, place, cells)", "write": "(self, row, count)", "adopt": "(self)", "repair": "(self)",
        "undo": "(self)", "wrong": "(self)", "cells_now": None, "read_now": None, "true_now": None, "__len__": "(self)",
        "__eq__": "(self, other)", "copy_of": "(self)",
    }},
    "console": {"Console": {"__init__": "(self)", "execute": "(self, line)"}},
}

ORDER = (4, 0, 2, 1, 3)

# Each function with arguments by their names, and what it returns.
CALLS = (
    (pages.is_page, {"value": PAGE}, True),
    (pages.is_table, {"value": PAGE}, False),
    (pages.filled, {"page": PAGE}, TABLE),
    (pages.blanks_of, {"page": PAGE}, [0, 2, 2, 1, 0]),
    (pages.cells_of, {"page": PAGE}, 10),
    (pages.shared, {"table": TABLE}, [0, 2, 2, 1, 0]),
    (pages.printed, {"table": TABLE}, PAGE),
    (pages.count_pages, {"table": TABLE}, 18),
    (pages.nth_page, {"table": TABLE, "number": 17}, PAGE),
    (pages.page_number, {"page": PAGE}, 17),
    (orders.keeps, {"page": PAGE, "order": ORDER}, True),
    (orders.read_in, {"page": PAGE, "order": ORDER}, [TABLE[row] for row in ORDER]),
    (orders.wrong_rows, {"page": PAGE, "order": (3, 0, 4, 1, 2)}, [1, 2, 3]),
    (orders.hosts_of, {"page": PAGE, "row": 4}, [None, 0]),
    (orders.count_orders, {"page": PAGE}, 4),
    (orders.nth_order, {"page": PAGE, "number": 0}, ORDER),
    (orders.order_number, {"page": PAGE, "order": ORDER}, 0),
    (orders.sort_order, {"page": PAGE, "column": 1}, (0, 3, 4, 1, 2)),
    (groups.beginnings_of, {"table": TABLE[3:]}, [
        ("ann",), ("ann", "rome"), ("ann", "rome", "1"), ("bob",), ("bob", "rome"), ("bob", "rome", "1")]),
    (groups.fewest_cells, {"table": TABLE}, 10),
    (groups.is_grouped, {"table": TABLE, "order": (0, 3, 1, 2, 4)}, False),
    (groups.grouped, {"table": TABLE[::-1]}, TABLE),
    (groups.count_grouped, {"table": TABLE}, 24),
    (groups.nth_grouped, {"table": TABLE, "number": 1}, (0, 2, 1, 3, 4)),
    (groups.grouped_number, {"table": TABLE, "order": (0, 2, 1, 3, 4)}, 1),
    (repairs.fewest_to_write, {"page": PAGE, "order": (3, 0, 4, 1, 2)}, 3),
    (repairs.written, {"page": PAGE, "order": (3, 0, 4, 1, 2)}, (
        ("ann", "rome", "1"), ("ann", "oslo", "1"), ("bob", "rome", "1"), ("ann", "oslo", "2"), (None, None, "3"))),
    (repairs.shown_in, {"page": PAGE, "order": (3, 0, 4, 1, 2)}, [(3, 1), (1, 2)]),
    (removals.is_safe, {"page": PAGE, "stays": (0, 2, 3)}, True),
    (removals.count_safe, {"page": PAGE}, 17),
    (removals.nth_safe, {"page": PAGE, "number": 2}, (0, 1, 2)),
    (removals.safe_number, {"page": PAGE, "stays": (4,)}, 16),
    (removals.fewest_staying, {"page": PAGE, "stays": (3, 4)}, (0, 3, 4)),
    (texts.format_rows, {"rows": PAGE[2:]}, ",,3\n,rome,1\nbob,rome,1"),
    (texts.parse_rows, {"text": ",x\nb,y"}, ((None, "x"), ("b", "y"))),
    (texts.format_order, {"order": ORDER}, "4 0 2 1 3"),
    (texts.parse_order, {"text": "4 0 2 1 3"}, ORDER),
)

MOVED = (PAGE[3], PAGE[0], PAGE[4], PAGE[1], PAGE[2])


def moved_sheet():
    """A sheet of PAGE in the order (3, 0, 4, 1, 2)."""
    sheet = sheets.Sheet(PAGE)
    sheet.move(3, 3, 0)
    sheet.move(4, 4, 2)
    return sheet


def paged_console():
    made = console.Console()
    made.execute("page a,x ,y b,x")
    return made


# What makes an object, a method of it, its arguments by their names, what it returns, and the rows or answers behind it.
METHODS = (
    (moved_sheet, "move", {"first": 0, "last": 1, "place": 3}, None, MOVED[2:] + MOVED[:2]),
    (moved_sheet, "remove", {"row": 0}, TABLE[3], MOVED[1:]),
    (moved_sheet, "insert", {"place": 5, "cells": (None, None, "4")}, None, MOVED + ((None, None, "4"),)),
    (moved_sheet, "write", {"row": 3, "count": 1}, None, MOVED[:3] + ((None, "oslo", "2"),) + MOVED[4:]),
    (lambda: sheets.Sheet(PAGE), "adopt", {}, [], PAGE),
    (moved_sheet, "repair", {}, 3, repairs.written(PAGE, (3, 0, 4, 1, 2))),
    (moved_sheet, "undo", {}, None, (PAGE[3],) + PAGE[:3] + PAGE[4:]),
    (moved_sheet, "wrong", {}, [0, 3, 4], MOVED),
    (moved_sheet, "copy_of", {}, moved_sheet(), MOVED),
    (lambda: objects.Printed(PAGE), "__call__", {"order": (4, 1, 0, 2, 3)}, objects.Printed((
        ("bob", "rome", "1"), ("ann", "oslo", "2"), ("ann", "oslo", "1"), (None, None, "3"), (None, "rome", "1"))), PAGE),
    (paged_console, "execute", {"line": "move 0 1 1"}, "ok", "b,x a,x ,y"),
)


def what_it_holds(made):
    if isinstance(made, console.Console):
        return made.execute("rows")
    return made.rows if isinstance(made, objects.Printed) else made.cells_now


class InterfaceTest(unittest.TestCase):

    def test_each_function_is_defined_in_its_module(self):
        for module, functions in SIGNATURES.items():
            for name, signature in functions.items():
                with self.subTest(name):
                    function = getattr(importlib.import_module("dittorows." + module), name)
                    self.assertEqual(function.__module__, "dittorows." + module)
                    self.assertEqual(str(inspect.signature(function)), signature)

    def test_each_class_is_defined_in_its_module_with_its_methods(self):
        for module, classes in CLASSES.items():
            for name, methods in classes.items():
                kind = getattr(importlib.import_module("dittorows." + module), name)
                self.assertEqual((kind.__module__, kind.__bases__), ("dittorows." + module, (object,)))
                for method, signature in methods.items():
                    with self.subTest(name + " " + method):
                        self.assertIn(method, vars(kind))
                        if signature is None:
                            self.assertIsInstance(vars(kind)[method], property)
                        else:
                            self.assertEqual(str(inspect.signature(vars(kind)[method])), signature)

    def test_no_other_methods_are_there_for_callers(self):
        for module, classes in CLASSES.items():
            for name, methods in classes.items():
                kind = getattr(importlib.import_module("dittorows." + module), name)
                self.assertEqual([other for other in vars(kind) if not other.startswith("_") and other not in methods], [])

    def test_objects_are_made_by_position_and_by_name(self):
        self.assertEqual(objects.Printed(rows=PAGE).rows, objects.Printed(PAGE).rows)
        self.assertEqual(sheets.Sheet(page=PAGE), sheets.Sheet(PAGE))
        with self.assertRaises(TypeError):
            console.Console(None)

    def test_methods_by_name_and_by_position(self):
        for make, name, arguments, answer, behind in METHODS:
            backwards = dict(reversed(list(arguments.items())))
            with self.subTest(name):
                for call in (lambda method: method(*arguments.values()), lambda method: method(**arguments),
                             lambda method: method(**backwards)):
                    made = make()
                    kept = copy.deepcopy(arguments)
                    found = call(getattr(made, name))
                    self.assertEqual((found, type(found)), (answer, type(answer)))
                    self.assertEqual((what_it_holds(made), arguments), (behind, kept))

    def test_each_method_is_called_here(self):
        named = [method for classes in CLASSES.values() for methods in classes.values() for method in methods
                 if methods[method] is not None and not method.startswith("__")]
        self.assertEqual(sorted(name for _, name, _, _, _ in METHODS), sorted(named + ["__call__"]))

    def test_wrong_arguments_of_methods_stay_as_they_were(self):
        listed = [["a", "x"], [None, "y"]]
        for make, name, arguments, _, _ in METHODS:
            for parameter in arguments:
                for wrong in (listed, listed[1], (listed,), {"a": listed}, tuple(listed)):
                    kept, made = copy.deepcopy(wrong), make()
                    holds = what_it_holds(made)
                    with self.assertRaises(DittoError):
                        getattr(made, name)(**{**arguments, parameter: wrong})
                    self.assertEqual((wrong, what_it_holds(made)), (kept, holds))

    def test_each_function_is_called_here(self):
        named = sorted(name for functions in SIGNATURES.values() for name in functions)
        self.assertEqual(sorted(function.__name__ for function, _, _ in CALLS), named)

    def test_arguments_by_name_and_by_position(self):
        for function, arguments, answer in CALLS:
            with self.subTest(function.__name__):
                self.assertEqual(function(**arguments), answer)
                self.assertEqual(function(*arguments.values()), answer)
                backwards = dict(reversed(list(arguments.items())))
                self.assertEqual(function(**backwards), answer)
                self.assertIs(type(function(**arguments)), type(answer))

    def test_arguments_behind_the_star_only_by_name(self):
        self.assertEqual(orders.sort_order(page=PAGE, column=0, blanks_last=False), (1, 2, 3, 0, 4))
        with self.assertRaises(TypeError):
            orders.sort_order(PAGE, 0, False)

    def test_a_parameter_with_a_default_may_be_omitted(self):
        self.assertEqual(orders.sort_order(PAGE, 0), orders.sort_order(PAGE, 0, blanks_last=True))

    def test_returned_lists_are_new_ones_each_time(self):
        for function, arguments, answer in CALLS:
            if isinstance(answer, list):
                with self.subTest(function.__name__):
                    first = function(**arguments)
                    self.assertIsNot(function(**arguments), first)
                    first.append("more")
                    first[0] = "other"
                    self.assertEqual(function(**arguments), answer)

    def test_arguments_stay_as_they_were(self):
        for function, arguments, answer in CALLS:
            with self.subTest(function.__name__):
                kept = copy.deepcopy(arguments)
                function(**arguments)
                self.assertEqual(arguments, kept)

    def test_wrong_arguments_stay_as_they_were(self):
        rows = [["a", "b"], [None, "c"]]
        listed = [1, 0]
        for function, arguments, _ in CALLS:
            for name in arguments:
                for wrong in (rows, listed, {"a": rows}, (rows, rows), tuple(rows)):
                    kept = copy.deepcopy(wrong)
                    try:
                        self.assertIs(function(**{**arguments, name: wrong}), False)
                    except DittoError:
                        pass
                    self.assertEqual(wrong, kept)

    def test_equal_calls_return_equal_results(self):
        page = samples.long_page()
        for function in (pages.filled, pages.blanks_of, pages.page_number, orders.count_orders, removals.count_safe):
            self.assertEqual(function(page), function(copy.deepcopy(page)))
        table = samples.long_table()
        for function in (groups.beginnings_of, groups.grouped, groups.count_grouped):
            self.assertEqual(function(table), function(copy.deepcopy(table)))
        for function in (repairs.written, repairs.shown_in):
            order = tuple(range(59, -1, -1))
            self.assertEqual(function(page, order), function(copy.deepcopy(page), tuple(list(order))))


if __name__ == "__main__":
    unittest.main()
