import itertools
import random
import unittest
from fractions import Fraction

from loneseats.compared import worse_lengths
from loneseats.errors import NoSize
from loneseats.items import rate
from loneseats.rules import Rule
from loneseats.shapes import ranked, shape
from loneseats.worths import Worth
from tests.plain import ENDS, PAIRS, copied, made, same, some_rules, some_worth, worth_of

EMPTY = Worth(free=1)


def words_of(rule):
    """What tells a rule."""
    return (rule.sizes, tuple(tuple(rule.bad_at(end)) for end in ENDS), rule.soft, rule.where, rule.offer)


def words_shape(sizes, greatest, where, offer):
    """What tells all rules of a shape, by its definition."""
    found = set()
    for many in range(greatest + 1):
        for bad in itertools.combinations(range(1, greatest + 1), many):
            for beside in ((), bad):
                for soft in (False, True):
                    found.add((tuple(sorted(set(sizes))), (beside, bad, beside), soft, where, offer))
    return found


class Examples(unittest.TestCase):
    """[82], the document's example."""

    def test_example(self):
        found = ranked(shape([2], 1), EMPTY)
        self.assertEqual([(told, len(some)) for told, some in found], [((1, 5), 2), ((1, 3), 2), ((3, 5), 2)])


class Shape(unittest.TestCase):
    """[82], shape."""

    def test_each_rule_once(self):
        for sizes in ([2], [1, 3], (5, 4), [3, 3], (2, 1, 2, 5), [1, 2, 3, 4, 5]):
            for greatest, many in ((0, 2), (1, 6), (2, 14), (3, 30)):
                for where in ("any", "side"):
                    for offer in range(6):
                        found = shape(sizes, greatest, where=where, offer=offer)
                        self.assertIs(type(found), list)
                        self.assertTrue(all(type(rule) is Rule for rule in found))
                        self.assertEqual(len(found), many)
                        self.assertEqual({words_of(rule) for rule in found}, words_shape(sizes, greatest, where, offer))

    def test_what_may_be_left_out(self):
        for greatest in range(4):
            found = shape([2, 3], greatest)
            self.assertEqual(found, shape([2, 3], greatest, where="any", offer=0))
            self.assertTrue(all(rule.where == "any" and rule.offer == 0 for rule in found))
            self.assertEqual([rule.where for rule in shape([2], greatest, where="side")], ["side"] * (len(found)))
            self.assertEqual([rule.offer for rule in shape([2], greatest, offer=4)], [4] * len(found))

    def test_what_is_passed_stays_and_answers_are_new(self):
        sizes = [3, 2, 3]
        first = shape(sizes, 2)
        self.assertEqual(sizes, [3, 2, 3])
        sizes.clear()
        self.assertTrue(all(rule.sizes == (2, 3) for rule in first))
        kept = list(first)
        first.clear()
        self.assertEqual([words_of(rule) for rule in shape([2, 3], 2)], [words_of(rule) for rule in kept])


class Ranked(unittest.TestCase):
    """[82], ranked."""

    def check(self, rules, worth, is_least):
        found = ranked(rules, worth, is_least=is_least)
        rates = [rate(rule, worth, is_least=is_least) for rule in rules]
        ordered = sorted(set(rates), key=lambda told: Fraction(*told))
        self.assertTrue(same(found, [(told, [at for at, each in enumerate(rates) if each == told]) for told in ordered]))
        return found

    def test_by_chance(self):
        chance = random.Random(821)
        for many in (0, 1, 2, 7, 30):
            for _ in range(6):
                rules = [made(words) for words in some_rules(chance.randint(0, 10 ** 6), many)]
                rules += chance.sample(rules, many // 3)
                for is_least in (False, True):
                    self.check(rules, worth_of(some_worth(chance, [])[:2] + (0,)), is_least)

    def test_shapes(self):
        for sizes in ([2], [2, 3], [1, 5]):
            for where in ("any", "side"):
                for offer in (0, 2):
                    rules = shape(sizes, 3, where=where, offer=offer)
                    for is_least in (False, True):
                        found = self.check(rules, Worth({sizes[0]: 3}, 2, until=sizes[0]), is_least)
                        self.assertEqual(sorted(at for told, some in found for at in some), list(range(30)))

    def test_close_rates(self):
        # 2/5 and 3/7, 1/3 and 3/8: the order of fractions is not that of the tuples.
        some = [Rule([2]), Rule([2], {"sold": [1]}), Rule([3]), Rule([3], {"sold": [1]}), Rule([3], {"sold": [2]}),
                Rule([4], {"sold": [1, 3]}), Rule([5], {"sold": [2, 4]}), Rule([1]), Rule([5], {"sold": [1, 2, 3, 4, 5]})]
        found = self.check(some, EMPTY, False)
        told = [each for each, at in found]
        self.assertEqual(told, sorted(told, key=lambda each: Fraction(*each)))
        self.assertNotEqual(told, sorted(told))
        self.assertEqual(told[0], (0, 1))

    def test_no_rules(self):
        for worth in (EMPTY, Worth({3: 1}, until=3)):
            for is_least in (False, True):
                self.assertEqual(ranked([], worth, is_least=is_least), [])

    def test_one_rule_several_times(self):
        found = ranked([Rule([2]), Rule([1]), Rule([2]), Rule([2])], EMPTY)
        self.assertTrue(same(found, [((0, 1), [1]), ((1, 3), [0, 2, 3])]))

    def test_least_is_not_the_default(self):
        rules = shape([2, 3], 2)
        self.assertEqual(ranked(rules, EMPTY), ranked(rules, EMPTY, is_least=False))
        self.assertNotEqual(ranked(rules, EMPTY), ranked(rules, EMPTY, is_least=True))

    def test_lesser_rates_are_worse_at_finitely_many_lengths(self):
        rules = shape([2, 3], 2)
        found = ranked(rules, EMPTY)
        for (lower, ones), (higher, others) in zip(found, found[1:]):
            for left, right in PAIRS:
                start, period, lengths = worse_lengths(rules[ones[0]], rules[others[0]], EMPTY, left, right)
                self.assertTrue(period == 1 and start not in lengths)

    def test_no_size(self):
        for until in (1, 4):
            for rules in ([Rule([2])], [Rule([until]), Rule([2])], [Rule([2]), Rule([until])]):
                for is_least in (False, True):
                    with self.assertRaises(NoSize) as caught:
                        ranked(rules, Worth({2: 1}, until=until), is_least=is_least)
                    self.assertTrue(same(caught.exception.size, until))

    def test_what_is_passed_stays_and_answers_are_new(self):
        rules = shape([2], 1)
        kept = copied(rules)
        first = ranked(rules, EMPTY)
        told = copied(first)
        self.assertEqual(rules, kept)
        self.assertEqual(len({id(some) for each, some in first}), len(first))
        for each, some in first:
            some.clear()
        first.clear()
        self.assertEqual(ranked(rules, EMPTY), told)


if __name__ == "__main__":
    unittest.main()
