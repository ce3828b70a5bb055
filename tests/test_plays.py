import random
import unittest

from loneseats.errors import BadSale
from loneseats.plans import Plan
from loneseats.plays import behind, free_seats, is_play, is_whole, sales_behind, tally
from loneseats.rules import Rule
from tests.plain import (any_values, copied, made, nested, same, some_rules, words_behind, words_is_stuck,
                         words_sales_behind)

ROWS = ([[7]], [[1], [2]], [[5, 3]], [[4, 1, 6], [9]], [[3], [8, 2], [5]], [[12, 12, 12, 12, 12]], [[30], [30]])
STRICT = Rule([2], {"sold": [1]})
PLAN = Plan([[5, 3]])


def some_play(words, rows, chance, most=60):
    """A play of a plan, sale by sale, by the definitions."""
    play = []
    while len(play) < most:
        found = words_sales_behind(words, rows, play)
        if not found:
            break
        play.append(chance.choice(found))
    return play


class Examples(unittest.TestCase):
    """[41], the document's examples."""

    def test_behind(self):
        self.assertEqual(behind(STRICT, PLAN, [(0, 1, 2)]), [
            (0, 0, ("wall", 1, "sold")), (0, 3, ("sold", 2, "pillar")), (0, 5, ("pillar", 3, "wall"))])
        self.assertEqual([sale for sale in sales_behind(STRICT, PLAN, [(0, 1, 2)]) if sale[2] == 2],
                         [(0, 3, 2), (0, 5, 2), (0, 6, 2)])

    def test_is_whole(self):
        self.assertIs(is_whole(STRICT, PLAN, [(0, 1, 2), (0, 3, 2), (0, 5, 2)]), True)
        self.assertIs(is_whole(STRICT, PLAN, [(0, 1, 2), (0, 3, 2)]), False)


class ByWords(unittest.TestCase):
    """[41], against the definitions."""

    def test_plays_and_their_beginnings(self):
        chance = random.Random(41)
        for words in some_rules(41, 12):
            rule = made(words)
            for rows in ROWS:
                plan, play = Plan(rows), some_play(words, rows, chance)
                kept = list(play)
                for many in range(len(play) + 1):
                    part = play[:many]
                    free = words_behind(rows, part)
                    self.assertTrue(same(behind(rule, plan, part), free))
                    self.assertTrue(same(sales_behind(rule, plan, part), words_sales_behind(words, rows, part)))
                    self.assertEqual(free_seats(rule, plan, part), sum(stretch[1] for row, seat, stretch in free))
                    self.assertIs(is_play(rule, plan, part), True)
                    stuck = all(words_is_stuck(words, stretch) for row, seat, stretch in free)
                    self.assertIs(is_whole(rule, plan, part), stuck)
                self.assertEqual(play, kept)

    def test_each_sale_that_is_not_offered(self):
        chance = random.Random(42)
        for words in some_rules(42, 10):
            rule = made(words)
            for rows in ROWS[:5]:
                play = some_play(words, rows, chance, 2)
                right = words_sales_behind(words, rows, play)
                for row in range(len(rows) + 1):
                    for seat in range(11):
                        for size in range(1, 6):
                            self.one_more(rule, Plan(rows), play, (row, seat, size), right)

    def one_more(self, rule, plan, play, sale, right):
        self.assertIs(is_play(rule, plan, play + [sale]), sale in right)
        if sale not in right:
            with self.assertRaises(BadSale) as caught:
                behind(rule, plan, play + [sale])
            self.assertEqual(caught.exception.at, len(play))

    def test_no_sales(self):
        self.assertEqual(behind(STRICT, PLAN, []), PLAN.stretches())
        self.assertEqual((free_seats(STRICT, PLAN, []), is_play(STRICT, PLAN, [])), (8, True))
        self.assertIs(is_whole(STRICT, PLAN, []), False)
        self.assertIs(is_whole(STRICT, Plan([[1], [1, 1]]), []), True)

    def test_sold_out(self):
        rule, plan = Rule([3]), Plan([[3], [3, 3]])
        play = [(1, 3, 3), (0, 0, 3), (1, 0, 3)]
        self.assertEqual((behind(rule, plan, play), sales_behind(rule, plan, play)), ([], []))
        self.assertEqual((free_seats(rule, plan, play), is_whole(rule, plan, play)), (0, True))

    def test_sixty_sales(self):
        rule, plan = Rule([1], where="side"), Plan([[60]])
        play = [(0, seat, 1) for seat in range(60)]
        self.assertEqual((behind(rule, plan, play), is_whole(rule, plan, play)), ([], True))


class Errors(unittest.TestCase):
    """[41], BadSale, and any value for a play."""

    functions = (behind, sales_behind, free_seats)

    def check(self, play, at):
        for function in self.functions:
            with self.subTest(play=repr(play)[:60]):
                with self.assertRaises(BadSale) as caught:
                    function(STRICT, PLAN, play)
                self.assertTrue(same(caught.exception.at, at))
        self.assertIs(is_play(STRICT, PLAN, play), False)
        self.assertIs(is_whole(STRICT, PLAN, play), False)

    def test_members(self):
        for bad in ([0, 1, 2], (0, 1), (0, 1, 2, 0), (), None, True, "012", (0, 1, True), (False, 1, 2), (0, True, 2),
                    (0, -1, 2), (-1, 0, 2), (0, 1, 0), (0, 1, 6), (0, 1, 3), (1, 0, 2), (0, 7, 2), (0, 4, 2),
                    (0, 8, 2), (0, 10 ** 30, 2), (10 ** 30, 0, 2), (0, "1", 2), ((0,), 1, 2), nested(29), "x" * 9000):
            self.check([bad], 0)
            self.check([(0, 1, 2), bad], 1)
            self.check([(0, 1, 2), bad, bad], 1)
            self.check([(0, 1, 2), (0, 3, 2), bad, (0, 5, 2)], 2)

    def test_sold_twice(self):
        self.check([(0, 0, 2), (0, 0, 2)], 1)
        self.check([(0, 0, 2), (0, 1, 2)], 1)
        self.check([(0, 2, 2), (0, 1, 2)], 1)

    def test_not_offered_then(self):
        self.check([(0, 2, 2), (0, 4, 2)], 1)
        self.check([(0, 3, 2), (0, 1, 2), (0, 6, 2), (0, 5, 2)], 3)
        self.check([(0, 0, 2), (0, 3, 2)][::-1] + [(0, 2, 2)], 1)

    def test_no_list(self):
        for thing in (None, True, 0, "", "play", (), ((0, 1, 2),), {}, {0: (0, 1, 2)}, {1}, (0, 1, 2), PLAN, STRICT):
            self.check(thing, -1)

    def test_any_value(self):
        for thing in any_values():
            kept = copied(thing)
            self.assertIs(is_play(STRICT, PLAN, thing), thing == [] and isinstance(thing, list))
            self.assertIs(is_whole(STRICT, PLAN, thing), False)
            if isinstance(thing, (list, tuple, dict)):
                self.assertTrue(same(thing, kept))
            if not isinstance(thing, list):
                self.check(thing, -1)
            elif thing:
                self.check(thing, 0)

    def test_what_is_returned_is_new(self):
        play = [(0, 1, 2)]
        for function in (behind, sales_behind):
            first = function(STRICT, PLAN, play)
            kept = list(first)
            first.clear()
            self.assertEqual(function(STRICT, PLAN, play), kept)
            empty = function(STRICT, PLAN, [])
            empty.clear()
        self.assertEqual((len(PLAN.stretches()), play), (2, [(0, 1, 2)]))


class Tally(unittest.TestCase):
    """[41], tally."""

    def test_tally(self):
        self.assertTrue(same(tally([]), {}))
        self.assertTrue(same(tally([(0, 0, 5), (3, 1, 2), (0, 0, 5), (9, 99, 1), (0, 0, 5)]), {1: 1, 2: 1, 5: 3}))

    def test_of_what_no_plan_has(self):
        self.assertTrue(same(tally([(10 ** 30, 10 ** 30, size) for size in (5, 4, 3, 2, 1)]),
                             {1: 1, 2: 1, 3: 1, 4: 1, 5: 1}))


if __name__ == "__main__":
    unittest.main()
