import random
import unittest

from loneseats.errors import NoSize
from loneseats.plans import Plan
from loneseats.plays import behind, is_play, is_whole
from loneseats.rules import Rule
from loneseats.sums import greatest_in, least_in, plan_play
from loneseats.totals import greatest, least
from loneseats.worths import Worth
from tests.plain import (made, same, some_cases, words_behind, words_may_end, words_plan_states, words_sales_behind,
                         words_total, worth_of)

EMPTY, STRICT = Worth(free=1), Rule([2], {"sold": [1]})
ROWS = ([[7]], [[1], [2]], [[5, 3]], [[4, 1, 6], [9]], [[3], [8, 2], [5]], [[12, 12, 12, 12, 12]], [[30], [30]],
        [[60]], [[1, 1, 1, 1, 1], [2, 2, 2, 2, 2], [3, 3], [4], [5]], [[9, 9], [9, 9]])


def plan_total(parts, rows, play):
    """What a play of a plan comes to, by the definitions."""
    prices, free, until = parts
    seats = sum(stretch[1] for row, seat, stretch in words_behind(rows, play))
    return sum(prices.get(size, 0) for row, seat, size in play) + free * seats


class Examples(unittest.TestCase):
    """[52], the document's example."""

    def test_greatest_in(self):
        self.assertEqual(greatest_in(STRICT, EMPTY, Plan([[7, 2], [3]])), 4)


class Sums(unittest.TestCase):
    """[52] and [5]."""

    def test_sums_of_the_stretches(self):
        for words, parts in some_cases(521, 16):
            rule, worth = made(words), worth_of(parts)
            for rows in ROWS:
                plan = Plan(rows)
                stretches = [stretch for row, seat, stretch in plan.stretches()]
                for is_least, both in ((False, (greatest_in, greatest)), (True, (least_in, least))):
                    total = words_total(words, *parts, is_least)
                    right = sum(total(stretch) for stretch in stretches)
                    self.assertTrue(same(both[0](rule, worth, plan), right))
                    self.assertEqual(sum(both[1](rule, worth, stretch) for stretch in stretches), right)

    def test_all_plays_of_small_plans(self):
        chance = random.Random(522)
        for words, parts in some_cases(522, 16):
            rows = chance.choice([[[4], [3]], [[3, 3]], [[2, 4], [1]], [[2], [2, 3]], [[1, 1, 2]]])
            totals = []
            for state in words_plan_states(words, rows):
                left = [stretch for row, seat, stretch in words_behind(rows, state)]
                if all(words_may_end(words, parts[2], stretch) for stretch in left):
                    totals.append(plan_total(parts, rows, state))
            rule, worth, plan = made(words), worth_of(parts), Plan(rows)
            self.assertEqual((least_in(rule, worth, plan), greatest_in(rule, worth, plan)), (min(totals), max(totals)))

    def test_plan_play(self):
        for words, parts in some_cases(523, 14):
            rule, worth = made(words), worth_of(parts)
            for rows in ROWS:
                for is_least in (False, True):
                    self.check_play(words, parts, rows, plan_play(rule, worth, Plan(rows), is_least=is_least), is_least)

    def check_play(self, words, parts, rows, play, is_least):
        rule, plan = made(words), Plan(rows)
        self.assertIs(type(play), list)
        for at, sale in enumerate(play):
            self.assertIs(type(sale), tuple)
            self.assertIn(sale, words_sales_behind(words, rows, play[:at]))
        self.assertTrue(is_play(rule, plan, play))
        left = [stretch for row, seat, stretch in behind(rule, plan, play)]
        self.assertTrue(all(words_may_end(words, parts[2], stretch) for stretch in left))
        if parts[2] == 0:
            self.assertTrue(is_whole(rule, plan, play))
        total = (least_in if is_least else greatest_in)(rule, worth_of(parts), plan)
        self.assertEqual(plan_total(parts, rows, play), total)

    def test_plan_play_is_the_greatest_by_default(self):
        plan = Plan([[7, 2], [3]])
        self.assertEqual(plan_total(({}, 1, 0), [[7, 2], [3]], plan_play(STRICT, EMPTY, plan)), 4)
        self.assertEqual(plan_total(({}, 1, 0), [[7, 2], [3]], plan_play(STRICT, EMPTY, plan, is_least=True)), 2)

    def test_a_play_is_new(self):
        plan = Plan([[7, 2], [3]])
        first = plan_play(STRICT, EMPTY, plan)
        kept = list(first)
        first.clear()
        self.assertEqual(plan_play(STRICT, EMPTY, plan), kept)
        self.assertEqual(plan, Plan([[7, 2], [3]]))


class Errors(unittest.TestCase):
    """[50] and [52]: NoSize(until)."""

    def test_no_size(self):
        plan = Plan([[7, 2], [3]])
        for until in (1, 3, 4, 5):
            worth = Worth({2: 1}, 1, until=until)
            for ask in (lambda: greatest_in(STRICT, worth, plan), lambda: least_in(STRICT, worth, plan),
                        lambda: plan_play(STRICT, worth, plan), lambda: plan_play(STRICT, worth, plan, is_least=True)):
                with self.assertRaises(NoSize) as caught:
                    ask()
                self.assertTrue(same(caught.exception.size, until))

    def test_zero_and_a_size_of_the_rule_are_none(self):
        self.assertEqual(greatest_in(Rule([2, 3]), Worth(free=1, until=3), Plan([[2], [2]])), 4)
        self.assertEqual(greatest_in(Rule([2, 3]), Worth(free=1, until=2), Plan([[2], [2]])), 0)


if __name__ == "__main__":
    unittest.main()
