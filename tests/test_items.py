import random
import unittest
from fractions import Fraction
from math import gcd

from loneseats.errors import NoSize
from loneseats.items import best_item, is_rate, items, rate
from loneseats.rules import Rule
from loneseats.worths import Worth
from tests.plain import any_values, made, same, some_cases, told, words_items, worth_of

EMPTY, BARE, STRICT = Worth(free=1), Rule([2]), Rule([2], {"sold": [1]})


class Examples(unittest.TestCase):
    """[60], the document's examples."""

    def test_items(self):
        self.assertEqual(items(STRICT, EMPTY), [(2, 0), (4, 0), (5, 3)])
        self.assertEqual(best_item(STRICT, EMPTY), (5, 3))
        self.assertEqual([rate(STRICT, EMPTY), rate(BARE, EMPTY), rate(STRICT.with_soft(True), EMPTY)],
                         [(3, 5), (1, 3), (1, 5)])


class ByWords(unittest.TestCase):
    """[60], against the definitions of [2]."""

    def check(self, words, parts, is_least):
        rule, worth = made(words), worth_of(parts)
        found = words_items(words, *parts, is_least)
        self.assertTrue(same(items(rule, worth, is_least=is_least), found))
        rates = [Fraction(gain, weight) for weight, gain in found]
        most = min(rates) if is_least else max(rates)
        best = [item for item, each in zip(found, rates) if each == most][0]
        self.assertTrue(same(best_item(rule, worth, is_least=is_least), best))
        self.assertTrue(same(rate(rule, worth, is_least=is_least), (most.numerator, most.denominator)))
        for gain, weight in [(most.numerator * times, most.denominator * times) for times in (1, 2, 7, 10 ** 30)]:
            self.assertIs(is_rate(rule, worth, (gain, weight), is_least=is_least), True)
            self.assertIs(is_rate(rule, worth, (gain + 1, weight), is_least=is_least), False)
            self.assertIs(is_rate(rule, worth, (gain - 1, weight), is_least=is_least), False)
            self.assertIs(is_rate(rule, worth, (gain, weight + 1), is_least=is_least), gain == 0)
            self.assertIs(is_rate(rule, worth, (-gain, -weight), is_least=is_least), False)

    def test_any_side_and_offers(self):
        for words, parts in some_cases(601, 60):
            for where in ("any", "side"):
                for offer in (0, 1, 3, 5):
                    for is_least in (False, True):
                        self.check(dict(words, where=where, offer=offer), parts, is_least)

    def test_all_lengths_bad(self):
        every = [1, 2, 3, 4, 5]
        for offer in range(6):
            for is_least in (False, True):
                self.check(told([1, 5], {"sold": every}, offer=offer), ({1: 1, 5: 9}, 1, 0), is_least)
                self.check(told([5], {"wall": every, "pillar": [2]}, True, offer=offer), ({5: 3}, 1, 5), is_least)

    def test_only_bad_lengths_of_sold_seats_count(self):
        rule = Rule([2], {"wall": [1, 3], "pillar": [2]})
        self.assertEqual([weight for weight, gain in items(rule, EMPTY)], [2, 3, 4, 5, 6, 7])
        self.assertEqual([weight for weight, gain in items(rule.with_offer(2), EMPTY)], [2, 3])

    def test_several_with_the_most_gain(self):
        rule, worth = Rule([1, 2, 3, 4, 5], where="side"), Worth({1: 1, 2: 2, 3: 3, 4: 4, 5: 5})
        self.assertEqual(items(rule, worth), [(1, 1), (2, 2), (3, 3), (4, 4), (5, 5)])
        for is_least in (False, True):
            self.assertEqual(best_item(rule, worth, is_least=is_least), (1, 1))
            self.assertEqual(best_item(rule.with_sizes([2, 4]), worth, is_least=is_least), (2, 2))
            self.assertEqual(rate(rule.with_sizes([2, 4]), worth, is_least=is_least), (1, 1))
        worth = Worth({2: 1, 3: 3, 4: 2, 5: 5})
        self.assertEqual(best_item(rule.with_sizes([2, 3, 4, 5]), worth), (3, 3))
        self.assertEqual(best_item(rule.with_sizes([2, 3, 4, 5]), worth, is_least=True), (2, 1))

    def test_nothing(self):
        for is_least in (False, True):
            self.assertTrue(same(rate(STRICT, Worth(), is_least=is_least), (0, 1)))
            self.assertEqual(best_item(STRICT, Worth(), is_least=is_least), (2, 0))
            self.assertIs(is_rate(STRICT, Worth(), (0, 10), is_least=is_least), True)
        self.assertEqual(rate(STRICT, EMPTY, is_least=True), (0, 1))

    def test_least_is_not_the_default(self):
        rule, worth = Rule([1, 2]), Worth({1: 3})
        self.assertEqual(items(rule, worth), [(1, 3), (2, 0), (2, 6), (3, 3), (3, 9), (4, 6)])
        self.assertEqual(items(rule, worth, is_least=False), items(rule, worth))
        self.assertEqual(items(rule, worth, is_least=True), [(1, 3), (2, 0), (2, 6), (3, 3), (4, 0)])
        self.assertEqual([best_item(rule, worth), best_item(rule, worth, is_least=True)], [(1, 3), (2, 0)])
        self.assertEqual([rate(rule, worth), rate(rule, worth, is_least=True)], [(3, 1), (0, 1)])
        self.assertIs(is_rate(rule, worth, (3, 1)), True)
        self.assertIs(is_rate(rule, worth, (3, 1), is_least=True), False)

    def test_lists_are_new(self):
        first = items(STRICT, EMPTY)
        first.clear()
        self.assertEqual(items(STRICT, EMPTY), [(2, 0), (4, 0), (5, 3)])


class IsRate(unittest.TestCase):
    """[60], is_rate of any value."""

    def test_any_values(self):
        for thing in any_values():
            self.assertIs(is_rate(STRICT, EMPTY, thing), False)
            for pair in ((thing, 5), (3, thing), (thing, thing), [3, 5], (3, 5, thing), (3,)):
                right = type(pair) is tuple and same(thing, 3) and pair == (3, 5)
                right = right or (type(pair) is tuple and same(thing, 5) and pair == (3, 5))
                self.assertIs(is_rate(STRICT, EMPTY, pair), right, repr(pair)[:60])

    def test_truths(self):
        rule, worth = Rule([1], where="side"), Worth({1: 1})
        self.assertIs(is_rate(rule, worth, (1, 1)), True)
        for pair in ((True, 1), (1, True), (True, True), (1, 1, 1), [1, 1], (False, 1)):
            self.assertIs(is_rate(rule, worth, pair), False)
        self.assertIs(is_rate(rule, Worth(), (0, 1)), True)
        self.assertIs(is_rate(rule, Worth(), (False, 1)), False)
        self.assertIs(is_rate(rule, Worth(), (0, True)), False)

    def test_a_second_number_of_nothing_or_below(self):
        for pair in ((0, 0), (0, -1), (-3, -5), (3, 0), (3, -5), (-3, 5)):
            self.assertIs(is_rate(STRICT, EMPTY, pair), False)
            self.assertIs(is_rate(STRICT, Worth(), pair), False)

    def test_lowest_terms(self):
        chance = random.Random(602)
        for words, parts in some_cases(602, 20):
            is_least = chance.random() < 0.5
            gain, weight = rate(made(words), worth_of(parts), is_least=is_least)
            self.assertEqual(gcd(gain, weight), 1)
            self.assertGreaterEqual(weight, 1)


class Errors(unittest.TestCase):
    """[50] and [60]: NoSize(until)."""

    def test_no_size(self):
        for until in (1, 3, 4, 5):
            worth = Worth({2: 1}, 1, until=until)
            for is_least in (False, True):
                for ask in (lambda: items(STRICT, worth, is_least=is_least),
                            lambda: best_item(STRICT, worth, is_least=is_least),
                            lambda: rate(STRICT, worth, is_least=is_least),
                            lambda: is_rate(STRICT, worth, (3, 5), is_least=is_least),
                            lambda: is_rate(STRICT, worth, None, is_least=is_least)):
                    with self.assertRaises(NoSize) as caught:
                        ask()
                    self.assertTrue(same(caught.exception.size, until))


if __name__ == "__main__":
    unittest.main()
