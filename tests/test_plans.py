import unittest

from loneseats.errors import LoneError, Wrong
from loneseats.plans import Plan
from tests.plain import any_values, copied, nested, same, words_stretches


class Plans(unittest.TestCase):
    """[40]."""

    rows = ([[1]], [[60]], [[5, 3]], [[5, 7], [1], [2, 2, 2]], [[12], [12], [12], [12], [12]], [[12, 12, 12, 12, 12]],
            [[1, 1, 1, 1, 1]] * 5, [[3], [3]])

    def test_the_example(self):
        self.assertEqual(Plan([[5, 3]]).stretches(), [(0, 0, ("wall", 5, "pillar")), (0, 5, ("pillar", 3, "wall"))])

    def test_lists_and_tuples(self):
        for rows in self.rows:
            told = [tuple(row) for row in rows]
            for given in (rows, told, tuple(told), tuple(rows)):
                plan = Plan(given)
                self.assertTrue(same(plan.rows(), told))
                self.assertTrue(same(list(plan), told))
                self.assertTrue(same([row for row in plan], told))
                self.assertEqual(len(plan), sum(sum(row) for row in rows))
                self.assertTrue(same(plan.stretches(), words_stretches(rows)))

    def test_by_keyword(self):
        self.assertEqual(Plan(rows=[[5]]), Plan(([5],)))

    def test_stretches_between_pillars(self):
        self.assertEqual(Plan([[4], [2, 5, 1]]).stretches(), [
            (0, 0, ("wall", 4, "wall")), (1, 0, ("wall", 2, "pillar")), (1, 2, ("pillar", 5, "pillar")),
            (1, 7, ("pillar", 1, "wall"))])

    def test_iterated_twice_at_once(self):
        plan = Plan([[1], [2]])
        self.assertEqual([(one, other) for one in plan for other in plan],
                         [((1,), (1,)), ((1,), (2,)), ((2,), (1,)), ((2,), (2,))])

    def test_copied_and_new(self):
        rows = [[5, 3], [2]]
        plan = Plan(rows)
        rows[0].append(4)
        rows.append([1])
        self.assertEqual(plan.rows(), [(5, 3), (2,)])
        plan.rows().clear()
        plan.stretches().clear()
        self.assertEqual((plan.rows(), len(plan.stretches()), len(plan)), ([(5, 3), (2,)], 3, 10))
        given = ([5, 3], [2])
        kept = copied(given)
        Plan(given)
        self.assertTrue(same(given, kept))

    def test_equal(self):
        plan = Plan([[5, 3], [2]])
        self.assertIs(plan == Plan(((5, 3), (2,))), True)
        self.assertIs(plan != Plan(((5, 3), (2,))), False)
        others = [Plan([[5, 3]]), Plan([[3, 5], [2]]), Plan([[2], [5, 3]]), Plan([[8], [2]]), Plan([[5, 3], [2], [1]])]
        for other in others + any_values() + [[(5, 3), (2,)], [[5, 3], [2]], ((5, 3), (2,)), plan.stretches()]:
            self.assertIs(plan == other, False)
            self.assertIs(plan != other, True)

    def test_wrong(self):
        bent = [[], (), [[]], [()], [[5], []], [[0]], [[61]], [[-1]], [[5, 0]], [[True]], [[5, False]], [["5"]], ["5"],
                [None], [[None]], None, 5, "5", "", {}, {0: [5]}, [{5: 5}], [[1, 1, 1, 1, 1, 1]], [[1]] * 6,
                [[60], [1]], [[31, 30]], [[12], [12], [12], [12], [13]], [[[5]]], [5], nested(30), [[1] * 9999],
                [[1]] * 9999, range(3), [range(1, 3)], {5}, [{5}], Plan([[5]]), [Plan([[5]])], [[5], 3], [[5], "3"]]
        for thing in bent:
            with self.subTest(thing=repr(thing)[:60]):
                with self.assertRaises(Wrong) as caught:
                    Plan(thing)
                self.assertEqual(caught.exception.place, 0)

    def test_any_value(self):
        for thing in any_values():
            try:
                Plan(thing)
            except LoneError as error:
                self.assertIs(type(error), Wrong)
                self.assertEqual(error.place, 0)
            else:
                self.assertIn(thing, ([[5]], ((5,),)))


if __name__ == "__main__":
    unittest.main()
