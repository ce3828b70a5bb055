import itertools
import random
import unittest
from fractions import Fraction

from loneseats.alikes import alike
from loneseats.choices import refuses
from loneseats.forms import form, value
from loneseats.guides import guide, is_guide
from loneseats.items import items, rate
from loneseats.late import late_table
from loneseats.papers import are_price_lists, is_paper, paper, price_lists
from loneseats.plans import Plan
from loneseats.plays import behind
from loneseats.shapes import shape
from loneseats.sums import greatest_in, least_in
from loneseats.totals import greatest, least, table, totals_of
from loneseats.worths import Worth
from tests.plain import (PAIRS, copied, made, reached, some_cases, some_rules, words_behind, words_may_end,
                         words_plan_states, words_refuses, words_sales_behind, words_span, words_states,
                         words_stretches, words_sales_then, worth_of)

PLANS = ([[6]], [[3, 3]], [[2, 4], [1]], [[4], [3]], [[1, 2, 2], [2]])


def plan_totals(words, parts, rows, states):
    """The totals of those of some states of a plan in which a play may end."""
    prices, free, until = parts
    found = set()
    for state in states:
        left = [part for row, seat, part in words_behind(rows, state)]
        if all(words_may_end(words, until, part) for part in left):
            found.add(sum(prices.get(size, 0) for row, seat, size in state) + free * sum(part[1] for part in left))
    return found


class Parts(unittest.TestCase):
    """[5]."""

    def test_totals_of_a_plan_are_sums(self):
        chance = random.Random(51)
        for words, parts in some_cases(51, 40):
            rows = chance.choice(PLANS)
            rule, worth, plan = made(words), worth_of(parts), Plan(rows)
            totals = plan_totals(words, parts, rows, words_plan_states(words, rows))
            sums = {0}
            for row, seat, stretch in plan.stretches():
                sums = {one + other for one in sums for other in totals_of(rule, worth, stretch)}
            self.assertEqual(totals, sums)
            stretches = [stretch for row, seat, stretch in plan.stretches()]
            for ask, single, best in ((greatest_in, greatest, max(totals)), (least_in, least, min(totals))):
                self.assertEqual(ask(rule, worth, plan), best)
                self.assertEqual(sum(single(rule, worth, stretch) for stretch in stretches), best)

    def test_what_comes_of_a_stretch_does_not_depend_on_others(self):
        for words in some_rules(52, 8):
            rows = [[4, 2]]
            alone = [words_states(words, stretch) for row, seat, stretch in words_stretches(rows)]
            both = {tuple(sorted([(0, seat, size) for seat, size in one] + [(0, seat + 4, size) for seat, size in other]))
                    for one, other in itertools.product(*alone)}
            self.assertEqual(set(words_plan_states(words, rows)), both)
            for state in sorted(both)[:20]:
                orders = [list(state), list(reversed(state))]
                answers = []
                for order in orders:
                    if all(sale in words_sales_behind(words, rows, order[:at]) for at, sale in enumerate(order)):
                        answers.append(behind(made(words), Plan(rows), order))
                self.assertTrue(all(answer == words_behind(rows, state) for answer in answers))


class Room(unittest.TestCase):
    """[6]."""

    def test_from_the_span_on_nothing_is_refused(self):
        below = 0
        for words in some_rules(61, 150):
            rule = made(words)
            self.assertEqual(rule.span(), words_span(words))
            for left, right in PAIRS:
                for length in range(rule.span() + 40):
                    for size in rule.sizes:
                        truth = refuses(rule, (left, length, right), size)
                        self.assertEqual(truth, words_refuses(words, (left, length, right), size))
                        self.assertFalse(truth and length >= rule.span())
                        below += truth and length >= max(rule.sizes)
        self.assertGreater(below, 100)


class Round(unittest.TestCase):
    """[7] and [8]."""

    def check(self, rule, worth):
        for is_least in (False, True):
            gain, weight = rate(rule, worth, is_least=is_least)
            told = [form(rule, worth, *pair, is_least=is_least) for pair in PAIRS]
            self.assertTrue(all(start <= 320 and 1 <= period <= 15 for start, period, rise, values in told))
            self.assertEqual({Fraction(rise, period) for start, period, rise, values in told}, {Fraction(gain, weight)})
            periods = [period for start, period, rise, values in told]
            self.assertTrue([some for some in range(1, 16) if all(some % period == 0 for period in periods)])
            rates = [Fraction(some, many) for many, some in items(rule, worth, is_least=is_least)]
            self.assertEqual(Fraction(gain, weight), min(rates) if is_least else max(rates))

    def test_some_rules(self):
        for words, parts in some_cases(71, 120):
            self.check(made(words), worth_of(parts))

    def test_shapes(self):
        for where, offer in itertools.product(("any", "side"), (0, 1, 4)):
            for rule in shape([2, 5], 2, where=where, offer=offer):
                self.check(rule, Worth({2: 3, 5: 8}, 1, until=5))

    def test_great_lengths(self):
        for words, parts in some_cases(72, 10):
            rule, worth = made(words), worth_of(parts)
            told = form(rule, worth, "wall", "sold")
            start, period, rise, values = told
            totals = table(rule, worth, "wall", "sold", 420)
            self.assertEqual([value(told, length) for length in range(421)], totals)
            gain, weight = rate(rule, worth)
            far = 10 ** 30 - 7
            self.assertEqual(value(told, far) - value(told, far - weight * period), gain * period)


class Prices(unittest.TestCase):
    """[9]."""

    def test_what_no_choice_outbids_no_play_outbids(self):
        chance = random.Random(91)
        seen = 0
        for words, parts in some_cases(91, 40):
            rule, worth = made(words), worth_of(parts)
            for is_least in (False, True):
                lists = price_lists(rule, worth, 8, is_least=is_least)
                some = copied(lists)
                # As much more for each seat of all stretches is too much for what the sale takes, so never too little.
                add = chance.choice([0, 1, 3])
                for pair in PAIRS:
                    add = chance.choice([add] * 20 + [0, 1])
                    some[pair] = [price + (-add if is_least else add) * length for length, price in enumerate(some[pair])]
                if are_price_lists(rule, worth, some, is_least=is_least):
                    seen += 1
                    for left, right in PAIRS:
                        for length, price in enumerate(some[(left, right)]):
                            totals = totals_of(rule, worth, (left, length, right))
                            self.assertTrue(min(totals) >= price if is_least else max(totals) <= price)
        self.assertGreater(seen, 20)

    def test_papers_and_guides_for_all_lengths(self):
        for words, parts in some_cases(92, 12):
            rule, worth = made(words), worth_of(parts)
            for is_least in (False, True):
                told = paper(rule, worth, is_least=is_least)
                self.assertTrue(is_paper(rule, worth, told, is_least=is_least))
                self.assertTrue(is_guide(rule, worth, told, guide(rule, worth, is_least=is_least)))
                for left, right in PAIRS:
                    totals = table(rule, worth, left, right, 200, is_least=is_least)
                    self.assertEqual([value(told[(left, right)], length) for length in range(201)], totals)


class Turned(unittest.TestCase):
    """[10]."""

    def test_with_offer_0(self):
        unlike = 0
        for words, parts in some_cases(101, 40):
            rule, worth = made(words), worth_of(parts)
            for left, right in PAIRS:
                for is_least in (False, True):
                    one = table(rule.with_offer(0), worth, left, right, 50, is_least=is_least)
                    self.assertEqual(one, table(rule.with_offer(0), worth, right, left, 50, is_least=is_least))
                    some = table(rule.with_offer(1), worth, left, right, 50, is_least=is_least)
                    unlike += some != table(rule.with_offer(1), worth, right, left, 50, is_least=is_least)
                self.assertEqual(totals_of(rule.with_offer(0), worth, (left, 9, right)),
                                 totals_of(rule.with_offer(0), worth, (right, 9, left)))
        self.assertGreater(unlike, 10)


class Alike(unittest.TestCase):
    """[11]."""

    def test_the_same_plays_and_totals(self):
        chance = random.Random(111)
        rules = [rule for where, offer in itertools.product(("any", "side"), (0, 1, 2, 3))
                 for rule in shape([2, 3], 2, where=where, offer=offer)]
        seen = 0
        for one, other in itertools.combinations(rules, 2):
            if chance.random() < 0.15 and alike(one, other):
                seen += 1
                worth = Worth({2: chance.randint(0, 9), 3: chance.randint(0, 9)}, chance.randint(0, 9),
                              until=chance.choice([0, 2, 3]))
                for left, right in itertools.product(("pillar", "wall"), repeat=2):
                    for is_least in (False, True):
                        self.assertEqual(table(one, worth, left, right, 60, is_least=is_least),
                                         table(other, worth, left, right, 60, is_least=is_least))
                    self.assertEqual(totals_of(one, worth, (left, 12, right)), totals_of(other, worth, (left, 12, right)))
        self.assertGreater(seen, 10)


class Late(unittest.TestCase):
    """[12]."""

    def test_totals_of_a_plan_are_sums(self):
        chance = random.Random(121)
        rules = some_rules(121, 40)
        for words, parts in some_cases(122, 24):
            train = [chance.choice(rules) for _ in range(chance.randint(0, 2))] + [words]
            rows = chance.choice(PLANS[1:])
            states = [()]
            for each in train:
                found = set()
                for state in states:
                    found.update(reached(state, lambda later: words_sales_behind(each, rows, later)))
                states = sorted(found)
            totals = plan_totals(words, parts, rows, states)
            for is_least in (False, True):
                best = [late_table([made(each) for each in train], worth_of(parts), left, right, length,
                                   is_least=is_least)[length]
                        for row, seat, (left, length, right) in words_stretches(rows)]
                self.assertEqual(sum(best), min(totals) if is_least else max(totals))


class Orders(unittest.TestCase):
    """[1]: for all orders of parties and choices, the plays of a stretch."""

    def test_all_orders(self):
        for words, parts in some_cases(11, 12):
            prices, free, until = parts
            stretch, found = ("wall", 6, "pillar"), set()
            waiting = [()]
            while waiting:
                play = waiting.pop()
                left = [part for row, seat, part in words_behind([[6, 1]], [(0,) + sale for sale in play]) if seat < 6]
                if all(words_may_end(words, until, part) for part in left):
                    found.add(sum(prices.get(size, 0) for seat, size in play) + free * sum(part[1] for part in left))
                waiting.extend(play + (sale,) for sale in words_sales_then(words, stretch, play))
            self.assertEqual(totals_of(made(words), worth_of(parts), stretch), sorted(found))
            self.assertEqual(greatest(made(words), worth_of(parts), stretch), max(found))
            self.assertEqual(least(made(words), worth_of(parts), stretch), min(found))


if __name__ == "__main__":
    unittest.main()
