import unittest

from loneseats import errors
from tests.plain import any_values

KEEPING = {"Wrong": "place", "NoEnd": "end", "NoSize": "size", "BadSale": "at", "NoSale": "sale",
           "BadStep": "at", "NoText": "line"}
PLAIN = ("NoChoice", "Nothing", "BadEdit", "NoCommand")


class Errors(unittest.TestCase):
    """[20] and [4]."""

    def test_lone_error_is_a_value_error(self):
        self.assertEqual(errors.LoneError.__bases__, (ValueError,))

    def test_eleven_direct_subclasses(self):
        names = list(KEEPING) + list(PLAIN)
        self.assertEqual(len(names), 11)
        for name in names:
            with self.subTest(name=name):
                self.assertEqual(getattr(errors, name).__bases__, (errors.LoneError,))
                self.assertEqual(getattr(errors, name).__module__, "loneseats.errors")

    def test_each_keeps_the_very_object(self):
        for name, field in KEEPING.items():
            for thing in any_values():
                error = getattr(errors, name)(thing)
                self.assertIs(getattr(error, field), thing)
                self.assertIs(getattr(getattr(errors, name)(**{field: thing}), field), thing)

    def test_each_keeps_what_is_changed_behind(self):
        sale = [0, 1]
        error = errors.NoSale(sale)
        sale.append(2)
        self.assertEqual(error.sale, [0, 1, 2])

    def test_plain_ones_are_made_with_nothing(self):
        for name in PLAIN:
            with self.assertRaises(errors.LoneError):
                raise getattr(errors, name)()

    def test_each_is_caught_as_a_value_error(self):
        for name in KEEPING:
            with self.assertRaises(ValueError):
                raise getattr(errors, name)(None)


if __name__ == "__main__":
    unittest.main()
