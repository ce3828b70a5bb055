import random
import unittest

from loneseats.errors import NoSize
from loneseats.plans import Plan
from loneseats.rules import Rule
from loneseats.sure import always_from, least_length, sure, sure_in, sure_seats
from tests.plain import (ENDS, any_values, made, same, some_rules, told, words_is_end, words_may_end, words_behind,
                         words_plan_states, words_states, words_total)

STRICT = Rule([2], {"sold": [1]})
EVERY = [1, 2, 3, 4, 5]
PARTIES = {size: 1 for size in EVERY}
SEATS = {size: size for size in EVERY}


class Examples(unittest.TestCase):
    """[72], the document's example."""

    def test_sure(self):
        self.assertEqual([sure(STRICT, ("sold", length, "sold")) for length in range(9)], [0, 0, 1, 0, 2, 1, 3, 2, 1])
        self.assertEqual([least_length(STRICT, "sold", "sold", 1), always_from(STRICT, "sold", "sold", 1)], [2, 4])


class Sure(unittest.TestCase):
    """[72], sure, sure_seats and sure_in."""

    def test_all_plays_of_short_stretches(self):
        chance = random.Random(721)
        for words in some_rules(721, 30):
            stretch = (chance.choice(ENDS), chance.randint(0, 8), chance.choice(ENDS))
            states = words_states(words, stretch)
            for until in [0] + sorted(set(words["sizes"])):
                ends = [state for state in states if words_is_end(words, until, stretch, state)]
                rule = made(words)
                self.assertTrue(same(sure(rule, stretch, until=until), min(len(state) for state in ends)))
                seats = min(sum(size for seat, size in state) for state in ends)
                self.assertTrue(same(sure_seats(rule, stretch, until=until), seats))
                if until == 0:
                    self.assertEqual(sure(rule, stretch), sure(rule, stretch, until=0))
                    self.assertEqual(sure_seats(rule, stretch), seats)

    def test_to_120_seats(self):
        chance = random.Random(722)
        for words in some_rules(722, 10):
            until = chance.choice([0] + words["sizes"])
            parties = words_total(words, PARTIES, 0, until, True)
            seats = words_total(words, SEATS, 0, until, True)
            left, right = chance.choice(ENDS), chance.choice(ENDS)
            for length in (20, 43, 77, 119, 120):
                stretch = (left, length, right)
                self.assertEqual(sure(made(words), stretch, until=until), parties(stretch))
                self.assertEqual(sure_seats(made(words), stretch, until=until), seats(stretch))

    def test_until_lets_a_play_end_sooner(self):
        rule, walls = Rule([1, 3]), ("wall", 4, "wall")
        self.assertEqual([sure(rule, walls), sure(rule, walls, until=1), sure(rule, walls, until=3)], [2, 2, 1])
        self.assertEqual([sure_seats(rule, walls), sure_seats(rule, walls, until=3)], [4, 1])
        self.assertEqual([sure(rule, ("wall", 2, "wall")), sure(rule, ("wall", 2, "wall"), until=3)], [2, 0])

    def test_sure_in_all_plays_of_small_plans(self):
        chance = random.Random(723)
        for words in some_rules(723, 20):
            rows = chance.choice([[[4], [3]], [[3, 3]], [[2, 4], [1]], [[2], [2, 3]], [[1, 1, 2]]])
            for until in [0] + sorted(set(words["sizes"])):
                ends = [state for state in words_plan_states(words, rows)
                        if all(words_may_end(words, until, part) for row, seat, part in words_behind(rows, state))]
                self.assertTrue(same(sure_in(made(words), Plan(rows), until=until), min(len(state) for state in ends)))
                if until == 0:
                    self.assertEqual(sure_in(made(words), Plan(rows)), min(len(state) for state in ends))

    def test_sure_in_is_a_sum(self):
        for words in some_rules(724, 12):
            for rows in ([[60]], [[5, 7], [9]], [[12, 12, 12, 12, 12]], [[20, 1], [3, 3, 3]]):
                for until in [0] + words["sizes"]:
                    plan = Plan(rows)
                    parts = [sure(made(words), part, until=until) for row, seat, part in plan.stretches()]
                    self.assertEqual(sure_in(made(words), plan, until=until), sum(parts))


class Lengths(unittest.TestCase):
    """[72], least_length and always_from."""

    def check(self, words, left, right, until, upto, some):
        total = words_total(words, PARTIES, 0, until, True)
        seated = [total((left, length, right)) for length in range(upto + 1)]
        for many in some:
            enough = [length for length in range(upto + 1) if seated[length] >= many]
            few = [length for length in range(upto + 1) if seated[length] < many]
            rule, given = made(words), {"until": until} if until else {}
            self.assertTrue(same(least_length(rule, left, right, many, **given), enough[0]))
            self.assertTrue(same(always_from(rule, left, right, many, **given), few[-1] + 1 if few else 0))
            # So far behind the last length that has too few, that each period, at most 15 lengths, has enough.
            self.assertTrue(not few or few[-1] + 30 <= upto, (words, many))

    def test_few(self):
        chance = random.Random(725)
        for words in some_rules(725, 14):
            until = chance.choice([0, 0] + words["sizes"])
            self.check(words, chance.choice(ENDS), chance.choice(ENDS), until, 120, range(5))

    def test_many(self):
        for words in (told([1, 2], {"sold": [1]}), told([2], {"sold": [1]}, False, "any", 2), told([3], where="side")):
            for until in (0, words["sizes"][-1]):
                self.check(words, "wall", "sold", until, 240, [0, 1, 2, 7, 19, 39, 40])

    def test_the_slowest(self):
        rule = Rule([5], {"sold": EVERY})
        self.assertEqual(always_from(rule, "wall", "pillar", 40), 584)
        seated = [sure(rule, ("wall", length, "pillar")) for length in range(560, 600)]
        self.assertEqual([560 + at for at, many in enumerate(seated) if many < 40][-1], 583)

    def test_where_they_differ(self):
        self.assertLess(least_length(STRICT, "sold", "sold", 2), always_from(STRICT, "sold", "sold", 2))
        self.check(told([2], {"sold": [1]}), "sold", "sold", 0, 120, range(9))
        self.check(told([2], {"sold": [1]}), "sold", "sold", 2, 120, range(9))

    def test_none(self):
        for words in some_rules(726, 10):
            self.assertTrue(same(least_length(made(words), "wall", "wall", 0), 0))
            self.assertTrue(same(always_from(made(words), "wall", "wall", 0), 0))


class Errors(unittest.TestCase):
    """[72], NoSize(until)."""

    def test_any_values(self):
        for thing in any_values():
            if same(thing, 2) or same(thing, 0):
                continue
            for ask in (lambda: sure(STRICT, ("wall", 7, "wall"), until=thing),
                        lambda: sure_seats(STRICT, ("wall", 7, "wall"), until=thing),
                        lambda: sure_in(STRICT, Plan([[7]]), until=thing),
                        lambda: least_length(STRICT, "wall", "wall", 0, until=thing),
                        lambda: always_from(STRICT, "wall", "wall", 0, until=thing)):
                with self.assertRaises(NoSize) as caught:
                    ask()
                self.assertIs(caught.exception.size, thing)

    def test_sizes_of_the_rule(self):
        for until in (0, 1, 3):
            self.assertEqual(sure(Rule([1, 3]), ("wall", 0, "wall"), until=until), 0)
            self.assertEqual(sure_in(Rule([1, 3]), Plan([[1]]), until=until), 0 if until == 3 else 1)


if __name__ == "__main__":
    unittest.main()
