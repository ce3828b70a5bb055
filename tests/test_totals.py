import random
import unittest

from loneseats.errors import BadSale, NoSize
from loneseats.plans import Plan
from loneseats.plays import behind, sales_behind
from loneseats.rules import Rule
from loneseats.stretches import turned
from loneseats.totals import greatest, least, left_behind, play_for, table, total_of, totals_of
from loneseats.worths import Worth
from tests.plain import (ENDS, PAIRS, any_values, made, same, some_cases, some_rules, told, words_behind, words_count,
                         words_free, words_is_end, words_is_stuck, words_may_end, words_plan_states,
                         words_sales_then, words_states, words_total, words_totals, worth_of)

EMPTY, BARE, STRICT = Worth(free=1), Rule([2]), Rule([2], {"sold": [1]})


class Examples(unittest.TestCase):
    """[51], the document's examples."""

    def test_tables(self):
        self.assertEqual(table(BARE, EMPTY, "sold", "sold", 8), [0, 1, 0, 1, 2, 1, 2, 3, 2])
        self.assertEqual(table(STRICT, EMPTY, "sold", "sold", 8), [0, 1, 0, 3, 0, 3, 0, 3, 6])

    def test_walls(self):
        walls = ("wall", 7, "wall")
        self.assertEqual([greatest(STRICT, EMPTY, walls), least(STRICT, EMPTY, walls)], [3, 1])
        self.assertEqual(totals_of(STRICT, EMPTY, walls), [1, 3])


class ByWords(unittest.TestCase):
    """[51], the greatest and the least totals by the definition."""

    def check_tables(self, words, parts, pairs, upto):
        rule, worth = made(words), worth_of(parts)
        for is_least in (False, True):
            total = words_total(words, *parts, is_least)
            for left, right in pairs:
                right_ones = [total((left, length, right)) for length in range(upto + 1)]
                self.assertTrue(same(table(rule, worth, left, right, upto, is_least=is_least), right_ones))
                single = least if is_least else greatest
                self.assertEqual(single(rule, worth, (left, upto, right)), right_ones[upto])

    def test_all_ends(self):
        for words, parts in some_cases(51, 24):
            self.check_tables(words, parts, PAIRS, 18)

    def test_longer(self):
        for words, parts in some_cases(52, 6):
            self.check_tables(words, parts, [("wall", "pillar"), ("sold", "sold")], 60)

    def test_to_120_seats(self):
        self.check_tables(told([2, 3], {"sold": [1], "wall": [2]}), ({2: 2}, 1, 0), [("wall", "sold")], 120)
        self.check_tables(told([1, 4], {"pillar": [1, 3]}, True, "any", 2), ({1: 1, 4: 9}, 3, 4),
                          [("pillar", "wall")], 120)
        self.check_tables(told([2, 5], {"sold": [1, 2]}, False, "side"), ({5: 6}, 2, 2), [("wall", "wall")], 120)

    def test_greatest_is_not_least_by_default(self):
        self.assertEqual(table(STRICT, EMPTY, "wall", "wall", 7)[7], 3)
        self.assertEqual(table(STRICT, EMPTY, "wall", "wall", 7, is_least=False)[7], 3)
        self.assertEqual(table(STRICT, EMPTY, "wall", "wall", 7, is_least=True)[7], 1)

    def test_no_seats(self):
        for left, right in PAIRS:
            self.assertEqual(table(STRICT, EMPTY, left, right, 0), [0])
            none = (left, 0, right)
            self.assertEqual((greatest(STRICT, EMPTY, none), least(STRICT, EMPTY, none)), (0, 0))
            self.assertEqual(totals_of(STRICT, EMPTY, none), [0])
            self.assertEqual(play_for(STRICT, EMPTY, none), [])

    def test_asked_by_turns(self):
        cases = [(made(words), worth_of(parts)) for words, parts in some_cases(53, 6)]
        cases = cases + [(rule, Worth({1: 2, 2: 3}, 1)) for rule, worth in cases]
        first = [self.answers(rule, worth) for rule, worth in cases]
        again = [self.answers(rule, worth) for rule, worth in reversed(cases)]
        fresh = [self.answers(rule.with_offer(rule.offer), Worth(worth.prices(), worth.free, until=worth.until))
                 for rule, worth in cases]
        self.assertEqual(first, list(reversed(again)))
        self.assertEqual(first, fresh)

    def answers(self, rule, worth):
        return [(table(rule, worth, "wall", "sold", 14, is_least=is_least), totals_of(rule, worth, ("wall", 9, "sold")))
                for is_least in (False, True)]

    def test_tables_are_new(self):
        for is_least in (False, True):
            first = table(STRICT, EMPTY, "sold", "sold", 8, is_least=is_least)
            kept = list(first)
            first.clear()
            self.assertEqual(table(STRICT, EMPTY, "sold", "sold", 8, is_least=is_least), kept)
        first = totals_of(STRICT, EMPTY, ("wall", 7, "wall"))
        first.append(5)
        self.assertEqual(totals_of(STRICT, EMPTY, ("wall", 7, "wall")), [1, 3])
        first = play_for(STRICT, EMPTY, ("wall", 7, "wall"))
        kept = list(first)
        first.append(5)
        self.assertEqual(play_for(STRICT, EMPTY, ("wall", 7, "wall")), kept)


class AllTotals(unittest.TestCase):
    """[51], totals_of against all plays."""

    def test_all_plays_of_short_stretches(self):
        chance = random.Random(54)
        for words, parts in some_cases(54, 30):
            stretch = (chance.choice(ENDS), chance.randint(0, 8), chance.choice(ENDS))
            prices, free, until = parts
            right = sorted({words_count(prices, free, stretch, state) for state in words_states(words, stretch)
                            if words_is_end(words, until, stretch, state)})
            rule, worth = made(words), worth_of(parts)
            self.assertTrue(same(totals_of(rule, worth, stretch), right))
            self.assertEqual((least(rule, worth, stretch), greatest(rule, worth, stretch)), (right[0], right[-1]))

    def test_sixteen_seats(self):
        chance = random.Random(55)
        for words, parts in some_cases(55, 12):
            stretch = (chance.choice(ENDS), 16, chance.choice(ENDS))
            self.assertTrue(same(totals_of(made(words), worth_of(parts), stretch),
                                 sorted(words_totals(words, *parts)(stretch))))

    def test_sixteen_seats_with_all_sizes(self):
        words, parts = told([1, 2, 3, 4, 5]), ({1: 8, 2: 9, 3: 7, 4: 9, 5: 1}, 4, 3)
        self.assertEqual(totals_of(made(words), worth_of(parts), ("wall", 16, "pillar")),
                         sorted(words_totals(words, *parts)(("wall", 16, "pillar"))))


class Plays(unittest.TestCase):
    """[51], play_for, left_behind and total_of."""

    def check_play(self, words, parts, stretch, is_least):
        rule, worth = made(words), worth_of(parts)
        prices, free, until = parts
        play = play_for(rule, worth, stretch, is_least=is_least)
        self.assertIs(type(play), list)
        for at, sale in enumerate(play):
            self.assertIs(type(sale), tuple)
            self.assertIn(sale, words_sales_then(words, stretch, play[:at]))
        self.assertTrue(words_is_end(words, until, stretch, play))
        total = words_count(prices, free, stretch, play)
        self.assertEqual(total, words_total(words, *parts, is_least)(stretch))
        self.assertTrue(same(total_of(rule, worth, stretch, play), total))

    def test_play_for(self):
        chance = random.Random(56)
        for words, parts in some_cases(56, 40):
            for is_least in (False, True):
                stretch = (chance.choice(ENDS), chance.randint(0, 16), chance.choice(ENDS))
                self.check_play(words, parts, stretch, is_least)

    def test_play_for_sixty_seats(self):
        chance = random.Random(57)
        for words, parts in some_cases(57, 6):
            for is_least in (False, True):
                self.check_play(words, parts, (chance.choice(ENDS), 60, chance.choice(ENDS)), is_least)

    def test_play_for_is_greatest_by_default(self):
        walls = ("wall", 7, "wall")
        self.assertEqual(total_of(STRICT, EMPTY, walls, play_for(STRICT, EMPTY, walls)), 3)
        self.assertEqual(total_of(STRICT, EMPTY, walls, play_for(STRICT, EMPTY, walls, is_least=True)), 1)

    def test_left_behind(self):
        chance = random.Random(58)
        for words in some_rules(58, 20):
            stretch = (chance.choice(ENDS), chance.randint(0, 20), chance.choice(ENDS))
            play = []
            while True:
                self.assertTrue(same(left_behind(made(words), stretch, play), words_free(stretch, play)))
                found = words_sales_then(words, stretch, play)
                if not found:
                    break
                play.append(chance.choice(found))

    def test_left_behind_of_a_bound(self):
        rule = Rule([5], where="side")
        self.assertEqual(left_behind(rule, ("wall", 400, "wall"), [(395, 5), (0, 5)]), [(5, ("sold", 390, "sold"))])
        self.assertEqual(left_behind(rule, ("wall", 5, "wall"), [(0, 5)]), [])
        self.assertEqual(left_behind(rule, ("wall", 0, "wall"), []), [])

    def test_total_of(self):
        chance = random.Random(59)
        for words, parts in some_cases(59, 25):
            stretch = (chance.choice(ENDS), chance.randint(0, 7), chance.choice(ENDS))
            prices, free, until = parts
            for state in words_states(words, stretch):
                self.one_state(words, parts, stretch, state)

    def one_state(self, words, parts, stretch, state):
        """A state is asked for in its ascending order, if that is a play."""
        rule, worth, play = made(words), worth_of(parts), list(state)
        prices, free, until = parts
        wrong = [at for at, sale in enumerate(play) if sale not in words_sales_then(words, stretch, play[:at])]
        if not wrong and words_is_end(words, until, stretch, state):
            self.assertTrue(same(total_of(rule, worth, stretch, play), words_count(prices, free, stretch, state)))
            return
        with self.assertRaises(BadSale) as caught:
            total_of(rule, worth, stretch, play)
        self.assertEqual(caught.exception.at, (wrong + [len(play)])[0])

    def test_what_is_passed_stays(self):
        play = [(1, 2), (3, 2)]
        left_behind(STRICT, ("wall", 7, "wall"), play)
        total_of(STRICT, Worth(until=2), ("wall", 5, "wall"), play)
        self.assertEqual(play, [(1, 2), (3, 2)])


class ManyAsked(unittest.TestCase):
    """[2] and [51]: the rules and worths that took longest, in all their kinds."""

    every = [1, 2, 3, 4, 5]

    def some_kinds(self):
        """The rules told by dicts, with all lengths bad, some, unlike ones at each end, or none."""
        for bad in (dict.fromkeys(ENDS, self.every), {}, {"sold": [1]}, {"wall": [1, 4], "pillar": [2], "sold": [3, 5]}):
            for offer in (0, 5):
                for soft in (False, True):
                    for where in ("any", "side"):
                        yield told(self.every, bad, soft, where, offer)

    def some_worths(self):
        return (dict.fromkeys(self.every, 3), 1, 1), ({1: 1, 2: 5, 3: 4, 4: 9}, 2, 0), ({2: 1, 5: 9}, 3, 5)

    def test_tables_and_plays_to_twenty_seats(self):
        for words in self.some_kinds():
            for parts in self.some_worths():
                rule, worth = made(words), worth_of(parts)
                for is_least in (False, True):
                    total = words_total(words, *parts, is_least)
                    right = [total(("wall", length, "pillar")) for length in range(21)]
                    for upto in (0, 18, 20):
                        found = table(rule, worth, "wall", "pillar", upto, is_least=is_least)
                        self.assertTrue(same(found, right[:upto + 1]))
                    single = least if is_least else greatest
                    for length in range(21):
                        self.assertTrue(same(single(rule, worth, ("wall", length, "pillar")), right[length]))
                    for length in (2, 7, 12, 20):
                        self.check_play(words, parts, ("wall", length, "pillar"), is_least, right[length])

    def check_play(self, words, parts, stretch, is_least, right):
        prices, free, until = parts
        play = play_for(made(words), worth_of(parts), stretch, is_least=is_least)
        for at, sale in enumerate(play):
            self.assertIn(sale, words_sales_then(words, stretch, play[:at]))
        self.assertTrue(words_is_end(words, until, stretch, play))
        self.assertEqual(words_count(prices, free, stretch, play), right)
        self.assertEqual(total_of(made(words), worth_of(parts), stretch, play), right)

    def test_all_totals_to_nine_seats(self):
        for words in self.some_kinds():
            for parts in self.some_worths():
                totals = words_totals(words, *parts)
                for length in range(10):
                    stretch = ("wall", length, "pillar")
                    self.assertTrue(same(totals_of(made(words), worth_of(parts), stretch), sorted(totals(stretch))))

    def test_sixty_seats(self):
        parts = self.some_worths()[0]
        for bad in (dict.fromkeys(ENDS, self.every), {}):
            words = told(self.every, bad, True)
            for is_least in (False, True):
                stretch = ("wall", 60, "pillar")
                self.check_play(words, parts, stretch, is_least, words_total(words, *parts, is_least)(stretch))


class Errors(unittest.TestCase):
    """[51], BadSale and NoSize."""

    stretch = ("wall", 7, "wall")

    def check(self, play, at):
        with self.subTest(play=repr(play)[:60]):
            with self.assertRaises(BadSale) as caught:
                left_behind(STRICT, self.stretch, play)
            self.assertTrue(same(caught.exception.at, at))
            with self.assertRaises(BadSale) as caught:
                total_of(STRICT, EMPTY, self.stretch, play)
            self.assertTrue(same(caught.exception.at, at))

    def test_members(self):
        more = [[0, 2], (0,), (0, 2, 2), (0, 0, 2), (), None, "02", (True, 2), (False, 2), (2, True), (0, 0), (0, 3),
                (0, 6), (-1, 2), (6, 2), (7, 2), (10 ** 30, 2), (0, None), (None, 2), ("0", 2), ((0,), 2), (0, [2]),
                STRICT, [], {0: 2}]
        for bad in more + [thing for thing in any_values() if thing != (2, 1)]:
            self.check([bad], 0)
            self.check([(2, 2), bad], 1)
            self.check([(2, 2), bad, bad], 1)
            self.check([(2, 2), (0, 2), bad, (5, 2)], 2)

    def test_sold_twice_and_not_offered_then(self):
        self.check([(2, 2), (2, 2)], 1)
        self.check([(2, 2), (3, 2)], 1)
        self.check([(2, 2), (1, 2)], 1)
        self.check([(0, 2), (3, 2)], 1)

    def test_bad_sizes_of_a_play_that_stops_too_soon(self):
        for play in ([], [(2, 2)], [(0, 2)]):
            with self.assertRaises(BadSale) as caught:
                total_of(STRICT, EMPTY, self.stretch, play)
            self.assertEqual(caught.exception.at, len(play))

    def test_until_lets_a_play_end_sooner(self):
        rule = Rule([1, 3])
        self.assertEqual(total_of(rule, Worth({1: 5}, 2, until=3), ("wall", 3, "wall"), [(1, 1)]), 9)
        with self.assertRaises(BadSale) as caught:
            total_of(rule, Worth({1: 5}, 2), ("wall", 3, "wall"), [(1, 1)])
        self.assertEqual(caught.exception.at, 1)
        with self.assertRaises(BadSale) as caught:
            total_of(rule, Worth({1: 5}, 2, until=1), ("wall", 3, "wall"), [(1, 1)])
        self.assertEqual(caught.exception.at, 1)

    def test_no_size_ahead_of_all_else(self):
        for until in (1, 3, 4, 5):
            worth = Worth({1: 1}, 1, until=until)
            calls = [lambda: greatest(STRICT, worth, self.stretch), lambda: least(STRICT, worth, self.stretch),
                     lambda: table(STRICT, worth, "wall", "sold", 0), lambda: totals_of(STRICT, worth, self.stretch),
                     lambda: table(STRICT, worth, "wall", "sold", 9, is_least=True),
                     lambda: play_for(STRICT, worth, self.stretch), lambda: total_of(STRICT, worth, self.stretch, []),
                     lambda: play_for(STRICT, worth, self.stretch, is_least=True),
                     lambda: total_of(STRICT, worth, self.stretch, [None])]
            for call in calls:
                with self.assertRaises(NoSize) as caught:
                    call()
                self.assertEqual(caught.exception.size, until)

    def test_a_size_of_the_rule_is_none_of_them(self):
        self.assertEqual(greatest(Rule([2, 3]), Worth(free=1, until=3), ("wall", 2, "wall")), 2)
        self.assertEqual(greatest(Rule([2, 3]), Worth(free=1, until=2), ("wall", 2, "wall")), 0)


class Guarantees(unittest.TestCase):
    """[5] and [10]."""

    def test_what_is_left_behind_adds_up(self):
        chance = random.Random(60)
        for words, parts in some_cases(60, 12):
            stretch = (chance.choice(ENDS), chance.randint(4, 7), chance.choice(ENDS))
            prices, free, until = parts
            rule, worth = made(words), worth_of(parts)
            for play in [[], play_for(rule, worth, stretch)[:1], play_for(rule, worth, stretch, is_least=True)[:2]]:
                left = [part for seat, part in left_behind(rule, stretch, play)]
                paid = sum(prices.get(size, 0) for seat, size in play)
                totals = self.totals_behind(words, parts, stretch, play)
                self.assertEqual(paid + sum(greatest(rule, worth, part) for part in left), max(totals))
                self.assertEqual(paid + sum(least(rule, worth, part) for part in left), min(totals))

    def totals_behind(self, words, parts, stretch, play):
        """The totals of all plays of a stretch that begin with some sales and may end."""
        prices, free, until = parts
        return [words_count(prices, free, stretch, state) for state in words_states(words, stretch, play)
                if words_is_end(words, until, stretch, state)]

    def test_the_stretches_of_a_plan_add_up(self):
        chance = random.Random(63)
        for words, parts in some_cases(63, 12):
            rows = chance.choice([[[4], [3]], [[3, 3]], [[2, 4], [1]], [[2], [2, 3]]])
            rule, worth, plan = made(words), worth_of(parts), Plan(rows)
            first = sales_behind(rule, plan, [])[:1]
            for play in ([], first):
                totals = self.plan_totals(words, parts, rows, play)
                left = [stretch for row, seat, stretch in behind(rule, plan, play)]
                paid = sum(parts[0].get(size, 0) for row, seat, size in play)
                self.assertEqual(paid + sum(greatest(rule, worth, stretch) for stretch in left), max(totals))
                self.assertEqual(paid + sum(least(rule, worth, stretch) for stretch in left), min(totals))

    def plan_totals(self, words, parts, rows, play):
        """The totals of all plays of a plan that begin with some sales and may end."""
        prices, free, until = parts
        totals = []
        for state in words_plan_states(words, rows, play):
            left = [stretch for row, seat, stretch in words_behind(rows, state)]
            if all(words_may_end(words, until, stretch) for stretch in left):
                paid = sum(prices.get(size, 0) for row, seat, size in state)
                totals.append(paid + free * sum(stretch[1] for stretch in left))
        return totals

    def test_a_play_without_until_ends_where_all_is_stuck(self):
        for words in some_rules(61, 10):
            rule = made(words)
            for length in range(8):
                stretch = ("wall", length, "sold")
                play = play_for(rule, Worth(free=1), stretch)
                self.assertTrue(all(words_is_stuck(words, part) for seat, part in left_behind(rule, stretch, play)))

    def test_turned_about(self):
        chance = random.Random(62)
        for words, parts in some_cases(62, 25):
            rule, worth = made(words).with_offer(0), worth_of(parts)
            for left, right in PAIRS:
                stretch = (left, chance.randint(0, 12), right)
                self.assertEqual(totals_of(rule, worth, stretch), totals_of(rule, worth, turned(stretch)))
                for single in (greatest, least):
                    self.assertEqual(single(rule, worth, stretch), single(rule, worth, turned(stretch)))
                self.assertEqual(table(rule, worth, left, right, 40), table(rule, worth, right, left, 40))


if __name__ == "__main__":
    unittest.main()
