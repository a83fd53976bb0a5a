"""[21]: the errors."""

import unittest

from dittorows import errors

NAMES = (
    "InvalidPage InvalidTable InvalidOrder InvalidNumber InvalidRow InvalidColumn InvalidChoice InvalidStays "
    "InvalidPlace InvalidCells InvalidCount InvalidRows InvalidLines InvalidText InvalidCommand Loose NotGrouped "
    "NotPrinted OtherWidth TooMany TooFew NothingToUndo"
).split()


class ErrorsTest(unittest.TestCase):

    def test_ditto_error_is_a_value_error(self):
        self.assertEqual(errors.DittoError.__bases__, (ValueError,))
        self.assertEqual(errors.DittoError.__module__, "dittorows.errors")

    def test_the_direct_subclasses_are_just_these(self):
        for name in NAMES:
            with self.subTest(name):
                kind = getattr(errors, name)
                self.assertEqual(kind.__bases__, (errors.DittoError,))
                self.assertEqual((kind.__name__, kind.__module__), (name, "dittorows.errors"))
        self.assertEqual(sorted(kind.__name__ for kind in errors.DittoError.__subclasses__()), sorted(NAMES))

    def test_the_others_take_a_message(self):
        for name in ["DittoError"] + [name for name in NAMES if name != "InvalidLines"]:
            with self.subTest(name):
                with self.assertRaises(errors.DittoError) as caught:
                    raise getattr(errors, name)("so it is")
                self.assertEqual(str(caught.exception), "so it is")

    def test_invalid_lines_has_its_index(self):
        for index in (0, 1, 60, 10 ** 99):
            self.assertEqual(errors.InvalidLines(index).index, index)
            self.assertEqual(errors.InvalidLines(index=index).index, index)

    def test_invalid_lines_without_an_index(self):
        self.assertIsNone(errors.InvalidLines().index)
        self.assertIsNone(errors.InvalidLines(None).index)

    def test_invalid_lines_is_raised_and_caught_like_the_others(self):
        for kind in (errors.InvalidLines, errors.DittoError, ValueError):
            with self.assertRaises(kind) as caught:
                raise errors.InvalidLines(7)
            self.assertEqual(caught.exception.index, 7)


if __name__ == "__main__":
    unittest.main()
