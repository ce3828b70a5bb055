import random
import time
import unittest
from fractions import Fraction

from loneseats.errors import NoSize
from loneseats.forms import form, value
from loneseats.items import rate
from loneseats.rules import Rule
from loneseats.totals import table
from loneseats.worths import Worth
from tests.plain import ENDS, PAIRS, made, same, some_cases, told, words_total, worth_of

EMPTY, STRICT = Worth(free=1), Rule([2], {"sold": [1]})
EVERY = [1, 2, 3, 4, 5]
# Forms come round from at most 320 on, by at most 15; so what is so far behind 320 is so for all lengths.
LONG = 320 + 15 + 15 + 5


def turns_by(totals, period, start):
    """Whether totals have the same rise from each length from start on, as far as they go, to that greater by period."""
    return len({totals[at + period] - totals[at] for at in range(start, len(totals) - period)}) <= 1


def words_form(totals):
    """The form by its definition, from a long list of totals, of which the last thirty come round."""
    period = [some for some in range(1, 16) if turns_by(totals, some, len(totals) - 30)][0]
    start = len(totals) - 30
    while start > 0 and turns_by(totals, period, start - 1):
        start -= 1
    return start, period, totals[start + period] - totals[start], tuple(totals[:start + period])


class Examples(unittest.TestCase):
    """[61], the document's example."""

    def test_form(self):
        found = form(STRICT, EMPTY, "sold", "sold")
        self.assertTrue(same(found, (2, 5, 3, (0, 1, 0, 3, 0, 3, 0))))
        self.assertTrue(same(value(found, 10 ** 20 + 3), 60000000000000000003))


class ByTables(unittest.TestCase):
    """[61], [7], [8] and [10]: forms against long tables."""

    def check_all(self, words, parts, pairs=PAIRS, upto=LONG):
        rule, worth = made(words), worth_of(parts)
        for is_least in (False, True):
            gain, weight = rate(rule, worth, is_least=is_least)
            for left, right in pairs:
                found = form(rule, worth, left, right, is_least=is_least)
                totals = table(rule, worth, left, right, upto, is_least=is_least)
                self.assertTrue(same(found, words_form(totals)))
                start, period, rise, values = found
                self.assertEqual(Fraction(rise, period), Fraction(gain, weight))
                self.assertTrue(start <= 320 and period <= 15)
                self.assertEqual([value(found, length) for length in range(upto + 1)], totals)

    def test_all_ends(self):
        for words, parts in some_cases(611, 24):
            self.check_all(words, parts)

    def test_more_rules(self):
        chance = random.Random(612)
        for words, parts in some_cases(612, 120):
            self.check_all(words, parts, [(chance.choice(ENDS), chance.choice(ENDS))])

    def test_few_sizes_and_many_bad_lengths(self):
        for sizes in ([1], [2], [5], [4, 5], [3, 5]):
            for where in ("any", "side"):
                for offer in (0, 1, 5):
                    for soft in (False, True):
                        words = told(sizes, {"sold": EVERY, "wall": [2, 5]}, soft, where, offer)
                        self.check_all(words, ({5: 3, 2: 1}, 1, sizes[-1]), [("sold", "sold"), ("wall", "pillar")])

    def test_what_seems_to_come_round_too_soon(self):
        some = [(told([1, 5], {"sold": EVERY, "pillar": [3, 4, 5]}), ({1: 9, 5: 4}, 2, 1)),
                (told([1, 5], {"sold": EVERY, "pillar": [1, 5], "wall": [2, 4, 5]}), ({5: 5}, 1, 0)),
                (told([1], {"sold": [4, 5], "wall": EVERY}), ({2: 7}, 2, 0)),
                (told([1], {"sold": [2, 5], "wall": EVERY, "pillar": EVERY}), ({1: 1}, 2, 0)),
                (told([1, 2, 4], {"sold": [1, 4], "wall": [1, 2], "pillar": [5]}, True), ({1: 7, 2: 3, 4: 1}, 1, 2)),
                (told([1, 2, 5], {"sold": [1, 3, 5], "wall": EVERY}, True), ({1: 8, 2: 6}, 1, 2)),
                (told([1, 3, 5], {"sold": EVERY, "wall": EVERY}, False, "any", 4), ({1: 2, 3: 2}, 0, 1)),
                (told([2, 4, 5], {"sold": EVERY, "wall": [4], "pillar": [1, 2]}), ({2: 6, 4: 3}, 0, 0))]
        for words, parts in some:
            self.check_all(words, parts)

    def test_against_the_definition_of_totals(self):
        for words, parts in some_cases(613, 8):
            for is_least in (False, True):
                total = words_total(words, *parts, is_least)
                for left, right in PAIRS:
                    found = form(made(words), worth_of(parts), left, right, is_least=is_least)
                    totals = [total((left, length, right)) for length in range(70)]
                    self.assertEqual([value(found, length) for length in range(70)], totals)

    def test_common_period(self):
        for words, parts in some_cases(614, 30):
            for is_least in (False, True):
                found = [form(made(words), worth_of(parts), left, right, is_least=is_least) for left, right in PAIRS]
                self.assertEqual(len({Fraction(rise, period) for start, period, rise, values in found}), 1)
                periods = [period for start, period, rise, values in found]
                self.assertTrue([many for many in range(1, 16) if all(many % period == 0 for period in periods)])

    def test_turned_about(self):
        for words, parts in some_cases(615, 20):
            rule, worth = made(words).with_offer(0), worth_of(parts)
            for left, right in PAIRS:
                for is_least in (False, True):
                    self.assertEqual(form(rule, worth, left, right, is_least=is_least),
                                     form(rule, worth, right, left, is_least=is_least))

    def test_the_ends_of_a_stretch_are_not_turned_with_an_offer(self):
        rule = Rule([2], {"wall": [2]}, offer=1)
        for left, right in (("wall", "sold"), ("sold", "wall")):
            totals = table(rule, EMPTY, left, right, 120)
            self.assertEqual(form(rule, EMPTY, left, right), words_form(totals))
        self.assertNotEqual(form(rule, EMPTY, "wall", "sold"), form(rule, EMPTY, "sold", "wall"))


class Great(unittest.TestCase):
    """[7] and [61]: the largest starts and periods."""

    words, parts = told([4, 5], {"sold": EVERY}), ({4: 4, 5: 9}, 6, 5)

    def test_a_great_start(self):
        rule, worth = made(self.words), worth_of(self.parts)
        first = time.process_time()
        found = [form(rule, worth, left, right) for left, right in PAIRS]
        self.assertLess(time.process_time() - first, 10)
        self.assertEqual([told[:3] for told in found], [
            (180, 15, 69), (186, 15, 69), (180, 15, 69), (186, 15, 69), (192, 15, 69), (186, 15, 69),
            (180, 15, 69), (186, 15, 69), (180, 15, 69)])
        total = words_total(self.words, *self.parts, False)
        for (left, right), each in zip(PAIRS, found):
            if left != "wall" and right != "wall":
                totals = [total((left, length, right)) for length in range(240)]
                self.assertEqual(each[:2] + each[3:], words_form(totals)[:2] + (tuple(totals[:sum(each[:2])]),))
                self.assertEqual([value(each, length) for length in range(240)], totals)

    def test_a_great_period(self):
        self.assertEqual(form(Rule([5], {"sold": EVERY}), EMPTY, "sold", "sold")[:3], (17, 15, 10))
        self.assertEqual(form(Rule([5], {"sold": EVERY}), EMPTY, "wall", "pillar")[:3], (5, 15, 10))

    def test_least_periods_of_its_own(self):
        self.assertEqual(form(Rule([5], {"sold": EVERY}, offer=5), EMPTY, "wall", "pillar", is_least=True)[:3],
                         (0, 5, 0))
        self.assertEqual(form(Rule([1]), EMPTY, "wall", "pillar"), (0, 1, 0, (0,)))
        self.assertEqual(form(Rule([1]), Worth({1: 9}), "wall", "pillar"), (0, 1, 9, (0,)))
        self.assertEqual(form(Rule([5]), Worth(), "wall", "wall"), (0, 1, 0, (0,)))


class Value(unittest.TestCase):
    """[61], value."""

    def test_by_steps(self):
        chance = random.Random(616)
        for _ in range(60):
            start, period = chance.randint(0, 9), chance.randint(1, 9)
            rise = chance.randint(-9, 9)
            values = [chance.randint(-99, 99) for _ in range(start + period)]
            made_of = (start, period, rise, tuple(values))
            while len(values) < 60:
                values.append(values[-period] + rise)
            self.assertTrue(same([value(made_of, length) for length in range(60)], values))

    def test_great_lengths(self):
        some = (3, 4, -7, (5, 0, 8, 10 ** 40, 1, -1, 2))
        for at in range(4):
            self.assertEqual(value(some, 3 + 4 * 10 ** 29 + at), some[3][3 + at] - 7 * 10 ** 29)
        self.assertEqual(value(some, 10 ** 30), value(some, 10 ** 30 - 4) - 7)
        self.assertEqual([value(some, length) for length in range(8)], [5, 0, 8, 10 ** 40, 1, -1, 2, 10 ** 40 - 7])
        self.assertEqual(value((0, 1, 0, (4,)), 10 ** 30), 4)
        self.assertEqual(value((0, 1, 2, (4,)), 10 ** 30), 4 + 2 * 10 ** 30)

    def test_of_a_form(self):
        for words, parts in some_cases(617, 10):
            found = form(made(words), worth_of(parts), "wall", "sold")
            start, period, rise, values = found
            far = start + period * (10 ** 30 // period - 20)
            for at in range(period):
                self.assertEqual(value(found, far + at), values[start + at] + (far - start) // period * rise)


class Errors(unittest.TestCase):
    """[50] and [61]: NoSize(until)."""

    def test_no_size(self):
        for until in (1, 3, 4, 5):
            for is_least in (False, True):
                with self.assertRaises(NoSize) as caught:
                    form(STRICT, Worth(until=until), "wall", "sold", is_least=is_least)
                self.assertTrue(same(caught.exception.size, until))

    def test_least_is_not_the_default(self):
        rule, worth = Rule([2, 3], {"sold": [1]}), Worth({2: 1, 3: 4}, 2, until=3)
        self.assertEqual(form(rule, worth, "wall", "sold"), form(rule, worth, "wall", "sold", is_least=False))
        self.assertNotEqual(form(rule, worth, "wall", "sold"), form(rule, worth, "wall", "sold", is_least=True))


if __name__ == "__main__":
    unittest.main()
