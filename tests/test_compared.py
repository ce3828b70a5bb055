import random
import unittest
from fractions import Fraction

from loneseats.compared import first_worse, never_worse, widest, worse_lengths
from loneseats.errors import NoSize
from loneseats.forms import form
from loneseats.items import rate
from loneseats.rules import Rule
from loneseats.totals import table
from loneseats.worths import Worth
from tests.plain import ENDS, PAIRS, copied, made, same, some_rules, some_worth, told, words_total, worth_of

EMPTY, BARE, STRICT = Worth(free=1), Rule([2]), Rule([2], {"sold": [1]})
SOFT = STRICT.with_soft(True)
# Greatest common periods of two forms are below this.
FAR = 15 * 15


def some_pairs(seed, many):
    """Tuples of two rules, told by dicts, what makes a worth for both of them, two ends and is_least."""
    chance = random.Random(seed)
    rules = some_rules(seed, 3 * many)
    found = []
    for _ in range(many):
        one, other = chance.choice(rules), chance.choice(rules)
        if chance.random() < 0.4:
            other = dict(one, **chance.choice([{"soft": not one["soft"]}, {"offer": 2}, {"offer": 0}, {"where": "any"},
                                               {"bad": {}}, {"bad": {"sold": [1]}}, {"bad": {"wall": [1, 2]}}]))
        common = [size for size in one["sizes"] if size in other["sizes"]]
        parts = some_worth(chance, common) if common else some_worth(chance, [])
        found.append((one, other, parts, chance.choice(ENDS), chance.choice(ENDS), chance.random() < 0.5))
    return found


def gaps(one, other, worth, left, right, is_least, upto):
    """How much greater the totals by one are, length by length."""
    ones = table(one, worth, left, right, upto, is_least=is_least)
    others = table(other, worth, left, right, upto, is_least=is_least)
    return [first - second for first, second in zip(ones, others)]


class Examples(unittest.TestCase):
    """[80], the document's examples."""

    def test_examples(self):
        self.assertEqual(first_worse(STRICT, BARE, EMPTY, "sold", "sold"), 3)
        self.assertTrue(same(widest(SOFT, BARE, EMPTY, "sold", "sold"), 0))
        self.assertIsNone(widest(STRICT, BARE, EMPTY, "sold", "sold"))


class ByTables(unittest.TestCase):
    """[80], against the totals of both rules, length by length."""

    def check(self, one, other, parts, left, right, is_least):
        ends, worth = (left, right), worth_of(parts)
        one, other, given = made(one), made(other), {"is_least": is_least}
        found = worse_lengths(one, other, worth, *ends, **given)
        start, period, lengths = found
        self.assertTrue(same(found, (start, period, tuple(sorted(set(lengths))))))
        self.assertTrue(type(start) is int and type(period) is int and all(type(length) is int for length in lengths))
        starts = [form(rule, worth, *ends, **given)[0] for rule in (one, other)]
        # So far behind the starts of both forms each gap has risen or fallen or stayed the same twice.
        numbers = gaps(one, other, worth, *ends, is_least, max([start] + starts) + 2 * FAR)
        truths = [number > 0 for number in numbers]
        self.assertEqual(list(lengths), [length for length in range(start + period) if truths[length]])
        self.assertEqual(truths[start + period:], truths[start:-period])
        # No shorter period, and no earlier start.
        for shorter in range(1, period):
            self.assertNotEqual(truths[-period - shorter:-shorter], truths[-period:])
        self.assertTrue(start == 0 or truths[start - 1] != truths[start - 1 + period])
        self.assertTrue(same(first_worse(one, other, worth, *ends, **given), truths.index(True) if any(truths) else None))
        rates = [Fraction(*rate(rule, worth, **given)) for rule in (one, other)]
        most = None if rates[0] > rates[1] else max(numbers)
        self.assertTrue(same(widest(one, other, worth, *ends, **given), most))
        return found, most

    def test_by_chance(self):
        seen = []
        for one, other, parts, left, right, is_least in some_pairs(801, 110):
            (start, period, lengths), most = self.check(one, other, parts, left, right, is_least)
            seen.append("none" if not lengths else "no end" if most is None else "few" if period == 1 else "round")
            if not lengths:
                self.assertEqual((start, period, most), (0, 1, 0))
        for kind in ("none", "no end", "few", "round"):
            self.assertGreater(seen.count(kind), 4, kind)

    def test_against_the_definition_of_totals(self):
        for one, other, parts, left, right, is_least in some_pairs(802, 12):
            ones, others = words_total(one, *parts, is_least), words_total(other, *parts, is_least)
            worse = [length for length in range(61) if ones((left, length, right)) > others((left, length, right))]
            start, period, lengths = worse_lengths(made(one), made(other), worth_of(parts), left, right, is_least=is_least)
            known = list(lengths)
            while start + period <= 60:
                known += [length + period for length in known if start <= length < start + period]
                start += period
            self.assertEqual([length for length in sorted(known) if length <= 60], worse)

    def test_a_long_period(self):
        one = told([4, 5], {"pillar": [3, 4, 5], "sold": [2, 4], "wall": [1]}, True)
        other = told([5], {"pillar": [2, 3, 5], "sold": [3]})
        parts = ({1: 8, 2: 3, 3: 9, 4: 1, 5: 1}, 2, 0)
        (start, period, lengths), most = self.check(one, other, parts, "pillar", "sold", False)
        self.assertEqual((start, period, len(lengths)), (4, 63, 37))

    def test_finitely_many_far_out(self):
        one = told([2], {"pillar": [1, 4], "sold": [4], "wall": [3]}, where="side")
        other = told([3, 5], {"pillar": [2, 5], "sold": [2, 3, 5], "wall": [1, 4, 5]}, True, "any", 5)
        parts = ({2: 7, 3: 4, 4: 9, 5: 8}, 8, 0)
        (start, period, lengths), most = self.check(one, other, parts, "pillar", "pillar", False)
        self.assertEqual((start, period, len(lengths)), (605, 1, 328))
        one = told([5], {"sold": [1, 3, 4], "wall": [4]}, True, "any", 4)
        other = told([4], {"sold": [2, 3]}, False, "any", 4)
        (start, period, lengths), most = self.check(one, other, ({3: 2, 4: 4}, 9, 0), "pillar", "pillar", False)
        self.assertEqual((start, period, len(lengths)), (867, 1, 124))
        # The other way about all lengths are worse from some one on.
        (start, period, lengths), most = self.check(other, one, ({3: 2, 4: 4}, 9, 0), "pillar", "pillar", False)
        self.assertEqual((start > 800, period, lengths[-1], most), (True, 1, start, None))

    def test_all_from_some_length_on(self):
        one = told([4], {"pillar": [3, 4, 5]}, where="side")
        other = told([5], {"pillar": [1, 3, 4], "sold": [3, 4, 5], "wall": [5]}, False, "side", 5)
        parts = ({1: 3, 2: 7, 4: 1, 5: 1}, 7, 0)
        (start, period, lengths), most = self.check(one, other, parts, "pillar", "pillar", True)
        self.assertEqual((start, period, len(lengths), most), (1225, 1, 809, None))

    def test_the_first_one_far_out(self):
        some = [(told([1, 5], {}, True, "any", 1),
                 told([1, 3, 4], {"pillar": [4], "sold": [1], "wall": [3, 4, 5]}, False, "side", 2),
                 ({2: 4, 3: 2, 4: 3, 5: 4}, 6, 1), "wall", "sold", False, 215),
                (told([1, 3, 5], {"sold": [2, 5]}, where="side"),
                 told([4], {"pillar": [4], "sold": [1, 4], "wall": [3, 5]}, False, "side", 4),
                 ({3: 4, 4: 5, 5: 1}, 7, 0), "wall", "sold", False, 150),
                # Behind several turns alone, by a rise above 1.
                (told([1, 4, 5], {"sold": [2, 3]}, True, "side"),
                 told([1, 2], {"pillar": [2, 3, 5], "sold": [2]}, where="side"),
                 ({2: 3, 4: 8, 5: 3}, 6, 1), "pillar", "pillar", False, 28),
                (told([1, 3, 5], {"pillar": [1, 5], "sold": [2, 4], "wall": [2, 3, 4]}, True, "side", 4),
                 told([4], {"pillar": [4], "sold": [2, 4, 5], "wall": [1, 4, 5]}, False, "side", 5),
                 ({2: 8, 4: 1, 5: 2}, 4, 0), "pillar", "sold", False, 87),
                (told([1, 3, 5], {"pillar": [2, 3], "sold": [1, 2, 3], "wall": [1]}, True, "any", 2),
                 told([4, 5], {"pillar": [2, 3], "sold": [1, 2, 3], "wall": [1]}, True, "any", 2),
                 ({2: 8, 3: 6, 4: 7, 5: 8}, 7, 0), "sold", "pillar", False, 66)]
        for one, other, parts, left, right, is_least, first in some:
            self.check(one, other, parts, left, right, is_least)
            self.assertEqual(first_worse(made(one), made(other), worth_of(parts), left, right, is_least=is_least), first)

    def test_a_rule_beside_itself(self):
        for words in some_rules(803, 10):
            rule, again = made(words), made(words)
            for is_least in (False, True):
                self.assertTrue(same(worse_lengths(rule, again, EMPTY, "wall", "sold", is_least=is_least), (0, 1, ())))
                self.assertIsNone(first_worse(rule, again, EMPTY, "wall", "sold", is_least=is_least))
                self.assertTrue(same(widest(rule, again, EMPTY, "wall", "sold", is_least=is_least), 0))
                self.assertIs(never_worse(rule, again, EMPTY, is_least=is_least), True)

    def test_least_is_asked_in_the_same_words(self):
        for one, other, parts, left, right, is_least in some_pairs(804, 20):
            one, other, worth = made(one), made(other), worth_of(parts)
            self.assertEqual(worse_lengths(one, other, worth, left, right),
                             worse_lengths(one, other, worth, left, right, is_least=False))
            self.assertEqual(first_worse(one, other, worth, left, right),
                             first_worse(one, other, worth, left, right, is_least=False))
            self.assertEqual(widest(one, other, worth, left, right),
                             widest(one, other, worth, left, right, is_least=False))
            self.assertEqual(never_worse(one, other, worth), never_worse(one, other, worth, is_least=False))
        both = [worse_lengths(STRICT, BARE, EMPTY, "wall", "wall", is_least=is_least) for is_least in (False, True)]
        self.assertNotEqual(*both)


class Never(unittest.TestCase):
    """[80], never_worse."""

    def test_all_nine_pairs_of_ends(self):
        seen = []
        for one, other, parts, left, right, is_least in some_pairs(805, 60):
            one, other, worth = made(one), made(other), worth_of(parts)
            firsts = [first_worse(one, other, worth, *pair, is_least=is_least) for pair in PAIRS]
            truth = all(first is None for first in firsts)
            self.assertIs(never_worse(one, other, worth, is_least=is_least), truth)
            seen.append("no" if not truth else "yes")
            if not truth and None in firsts:
                seen.append("some ends")
        for kind in ("no", "yes", "some ends"):
            self.assertGreater(seen.count(kind), 3, kind)

    def test_worse_with_one_pair_alone(self):
        one, worth = Rule([3], {"pillar": [1, 2]}), Worth({3: 1})
        worse = [pair for pair in PAIRS if first_worse(Rule([3]), one, worth, *pair) is not None]
        self.assertTrue(all("pillar" in pair for pair in worse))
        self.assertIs(never_worse(Rule([3]), one, worth), False)
        self.assertIs(never_worse(one, Rule([3]), worth), True)


class Errors(unittest.TestCase):
    """[80], NoSize(until), wherever it is no size of one of the rules."""

    def test_no_size(self):
        pair, three = Rule([2]), Rule([3, 5])
        for one, other, until in ((pair, pair, 3), (pair, three, 3), (three, pair, 3), (pair, three, 2), (three, pair, 2),
                                  (three, three, 4), (pair, three, 1)):
            worth = Worth({2: 1}, 1, until=until)
            for is_least in (False, True):
                for ask in (lambda: worse_lengths(one, other, worth, "wall", "sold", is_least=is_least),
                            lambda: first_worse(one, other, worth, "wall", "sold", is_least=is_least),
                            lambda: widest(one, other, worth, "wall", "sold", is_least=is_least),
                            lambda: never_worse(one, other, worth, is_least=is_least)):
                    with self.assertRaises(NoSize) as caught:
                        ask()
                    self.assertTrue(same(caught.exception.size, until))

    def test_a_size_of_both(self):
        worth = Worth({2: 1}, 1, until=3)
        self.assertIs(never_worse(Rule([2, 3]), Rule([3]), worth), never_worse(Rule([2, 3]), Rule([3]), worth))
        self.assertIsNotNone(worse_lengths(Rule([2, 3]), Rule([3]), worth, "wall", "wall"))

    def test_what_is_passed_stays(self):
        one, other, worth = Rule([2, 3], {"wall": [1]}), Rule([2], {"sold": [1, 2]}), Worth({2: 1, 3: 2}, 1)
        kept = copied((one, other, worth))
        first = worse_lengths(one, other, worth, "wall", "wall")
        never_worse(one, other, worth)
        self.assertEqual((one, other, worth), kept)
        self.assertEqual(worse_lengths(one, other, worth, "wall", "wall"), first)


if __name__ == "__main__":
    unittest.main()
