import unittest

from loneseats import kinds
from loneseats.rules import Rule
from tests.plain import Same, any_values, copied, nested, same

RIGHT = {
    "is_integer": [0, 1, -1, 5, 10 ** 40, -10 ** 40],
    "is_number": [0, 1, 5, 400, 10 ** 40],
    "is_end": ["pillar", "sold", "wall"],
    "is_size": [1, 2, 3, 4, 5],
    "are_sizes": [[], (), [1], (5,), [5, 1, 5, 2, 2], (3, 3, 3), [2] * 9999, (1, 2, 3, 4, 5)],
    "is_stretch": [("wall", 0, "wall"), ("sold", 7, "pillar"), ("pillar", 10 ** 30, "sold")],
    "is_choice": [(1, 0), (5, 0), (2, 400), (3, 10 ** 30)],
    "is_sale": [(0, 0, 1), (4, 59, 5), (10 ** 30, 10 ** 30, 2)],
}
BENT = {
    "is_integer": [True, False, None, "1", "", [1], (1,), {}, b"1"],
    "is_number": [-1, -10 ** 40, True, False, None, "0", [0], (0,), {}],
    "is_end": ["", "Wall", "wall ", " wall", "walls", "wal", "sold\n", "side", None, True, 0, ["wall"], ("wall",),
               {"wall": 1}, b"wall"],
    "is_size": [0, 6, -1, True, False, None, "1", [1], (1,), 10 ** 40],
    "are_sizes": [None, 1, "12", "", {}, {1: 1}, set(), {1}, range(1), [0], [6], (1, 0), (5, 6), [True], (1, False),
                  [None], ["1"], [[1]], ((1,),), [1] * 9999 + [6], -1],
    "is_stretch": [["wall", 7, "sold"], ("wall", 7), ("wall", 7, "sold", 1), (), ("wall",), ("wall", -1, "sold"),
                   ("wall", True, "sold"), ("wall", False, "sold"), ("wall", "7", "sold"), ("wall", None, "sold"),
                   ("Wall", 7, "sold"), ("wall", 7, "Sold"), (None, 7, "wall"), ("wall", 7, None),
                   (["wall"], 7, "wall"), ("wall", 7, ["wall"]), (7, "wall", "wall"), ("wall", [7], "wall"), "wall"],
    "is_choice": [[2, 0], (2,), (2, 0, 0), (), (0, 0), (6, 0), (2, -1), (True, 0), (2, False), (2, True), ("2", 0),
                  (2, "0"), (2, None), (None, 0), ((2,), 0), (2, [0]), "20", 20],
    "is_sale": [[0, 0, 1], (0, 0), (0, 0, 1, 0), (), (-1, 0, 1), (0, -1, 1), (0, 0, 0), (0, 0, 6), (False, 0, 1),
                (0, False, 1), (0, 0, True), ("0", 0, 1), (0, "0", 1), (0, 0, "1"), (None, 0, 1), (0, None, 1),
                (0, 0, None), ([0], 0, 1), "001"],
}


class Kinds(unittest.TestCase):
    """[21]."""

    def test_right_things(self):
        for name, things in RIGHT.items():
            for thing in things:
                with self.subTest(name=name, thing=repr(thing)[:60]):
                    self.assertIs(getattr(kinds, name)(thing), True)

    def test_bent_things(self):
        for name, things in BENT.items():
            for thing in things:
                with self.subTest(name=name, thing=repr(thing)[:60]):
                    self.assertIs(getattr(kinds, name)(thing), False)

    def test_what_is_equal_to_everything(self):
        for name, things in RIGHT.items():
            self.assertIs(getattr(kinds, name)(Same()), False)
            for thing in things:
                if isinstance(thing, (list, tuple)):
                    for at in range(min(len(thing), 3)):
                        bent = thing[:at] + type(thing)([Same()]) + thing[at + 1:]
                        self.assertIs(getattr(kinds, name)(bent), False)

    def test_any_value_has_an_answer_and_stays(self):
        for name in RIGHT:
            for thing in any_values() + [nested(30), Rule([1]), [Rule([1])], (Rule([1]), 1, Rule([1]))]:
                before = copied(thing)
                answer = getattr(kinds, name)(thing)
                self.assertIs(type(answer), bool)
                if isinstance(thing, (list, tuple, dict, str, int)) and "Rule" not in repr(thing):
                    self.assertTrue(same(thing, before))

    def test_the_examples(self):
        self.assertEqual([kinds.is_stretch(("wall", 7, "sold")), kinds.is_stretch(["wall", 7, "sold"]),
                          kinds.is_sale((0, 4, 2))], [True, False, True])


if __name__ == "__main__":
    unittest.main()
