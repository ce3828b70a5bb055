import unittest

from loneseats.errors import LoneError, NoChoice
from loneseats.stretches import fits, parts, turned, wholes
from tests.plain import ENDS, any_values

WALLS = ("wall", 7, "pillar")


class Stretches(unittest.TestCase):
    """[22]."""

    def test_the_examples(self):
        self.assertEqual([parts(WALLS, 2, 1), turned(("wall", 7, "sold")), fits(("wall", 7, "sold"), 3, 5)],
                         [(("wall", 1, "sold"), ("sold", 4, "pillar")), ("sold", 7, "wall"), False])

    def test_both_sides_and_one_seat_beyond(self):
        for size in range(1, 6):
            self.assertEqual(parts(WALLS, size, 0), (("wall", 0, "sold"), ("sold", 7 - size, "pillar")))
            self.assertEqual(parts(WALLS, size, 7 - size), (("wall", 7 - size, "sold"), ("sold", 0, "pillar")))
            self.assertIs(fits(WALLS, size, 0), True)
            self.assertIs(fits(WALLS, size, 7 - size), True)
            for before in (-1, 8 - size, 7, 10 ** 30):
                self.assertIs(fits(WALLS, size, before), False)
                self.assertRaises(NoChoice, parts, WALLS, size, before)

    def test_sizes_beyond(self):
        for size in (0, 6, -1):
            self.assertIs(fits(("sold", 20, "sold"), size, 0), False)
            self.assertRaises(NoChoice, parts, ("sold", 20, "sold"), size, 0)

    def test_short_and_long_stretches(self):
        self.assertIs(fits(("wall", 0, "wall"), 1, 0), False)
        self.assertEqual(parts(("wall", 1, "wall"), 1, 0), (("wall", 0, "sold"), ("sold", 0, "wall")))
        self.assertEqual(parts(("sold", 400, "sold"), 5, 395), (("sold", 395, "sold"), ("sold", 0, "sold")))
        self.assertIs(fits(("sold", 400, "sold"), 5, 396), False)

    def test_any_values(self):
        for size in any_values():
            for before in any_values():
                is_size = type(size) is int and 1 <= size <= 5
                is_right = is_size and type(before) is int and before >= 0 and size + before <= 7
                self.assertIs(fits(WALLS, size, before), is_right)
                try:
                    left, right = parts(WALLS, size, before)
                except LoneError as error:
                    self.assertIs(type(error), NoChoice)
                    self.assertFalse(is_right)
                else:
                    self.assertTrue(is_right)
                    self.assertEqual((left[1], right[1]), (before, 7 - size - before))

    def test_turned_twice(self):
        for left in ENDS:
            for right in ENDS:
                for length in (0, 1, 400):
                    self.assertEqual(turned((left, length, right)), (right, length, left))
                    self.assertEqual(turned(turned((left, length, right))), (left, length, right))

    def test_wholes(self):
        for length in (0, 5, 400):
            told = wholes(length)
            self.assertIs(type(told), list)
            self.assertEqual(told, sorted(told))
            self.assertEqual(len(set(told)), 9)
            self.assertTrue(all(left in ENDS and many == length and right in ENDS for left, many, right in told))
        self.assertEqual(wholes(2)[:4], [("pillar", 2, "pillar"), ("pillar", 2, "sold"), ("pillar", 2, "wall"),
                                         ("sold", 2, "pillar")])

    def test_wholes_are_new(self):
        told = wholes(3)
        told.clear()
        self.assertEqual(len(wholes(3)), 9)
        self.assertIsNot(wholes(3), wholes(3))


if __name__ == "__main__":
    unittest.main()
