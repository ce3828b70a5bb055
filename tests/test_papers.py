import random
import unittest

from loneseats.errors import NoSize
from loneseats.forms import form, value
from loneseats.papers import are_price_lists, is_paper, paper, price_lists
from loneseats.rules import Rule
from loneseats.totals import table
from loneseats.worths import Worth
from tests.plain import (PAIRS, any_values, copied, made, same, some_cases, told, words_may_end, words_sales,
                         words_span, words_total, worth_of)

EMPTY, STRICT = Worth(free=1), Rule([2], {"sold": [1]})


def words_keep(words, parts, lists, is_least):
    """Whether lists of prices keep what price lists keep, by the definition."""
    prices, free, until = parts
    sign = -1 if is_least else 1
    for (left, right), listed in lists.items():
        for length, price in enumerate(listed):
            bids = [free * length] if words_may_end(words, until, (left, length, right)) else []
            for size, before in words_sales(words, (left, length, right)):
                after = length - size - before
                bids.append(prices.get(size, 0) + lists[(left, "sold")][before] + lists[("sold", right)][after])
            if any(sign * bid > sign * price for bid in bids):
                return False
    return True


def words_prices(told, upto):
    """What forms tell of the lengths below upto, step by step."""
    lists = {}
    for pair, (start, period, rise, values) in told.items():
        lists[pair] = list(values)
        while len(lists[pair]) < upto:
            lists[pair].append(lists[pair][-period] + rise)
        lists[pair] = lists[pair][:upto]
    return lists


def stepped(before, after, size, many):
    """Lists of prices that are outbidden only by one choice in one stretch between a wall and a pillar, if at all."""
    lists = {pair: [1] * many for pair in PAIRS}
    lists[("sold", "sold")] = [0] * many
    lists[("pillar", "sold")] = lists[("sold", "wall")] = [0] * many
    lists[("wall", "sold")] = [1 if length >= before else 0 for length in range(many)]
    lists[("sold", "pillar")] = [1 if length >= after else 0 for length in range(many)]
    lists[("wall", "pillar")] = [2 if length > before + size + after else 1 for length in range(many)]
    return {pair: list(listed) for pair, listed in lists.items()}


def longer(told, more, times):
    """The forms with a start greater by more and a period so many times as great, which tell the same."""
    found = {}
    for pair, (start, period, rise, values) in told.items():
        many = start + more + period * times
        found[pair] = (start + more, period * times, rise * times, tuple(words_prices(told, many)[pair]))
    return found


def with_value(told, pair, at, value):
    """The forms with another value of a pair."""
    start, period, rise, values = told[pair]
    return {**told, pair: (start, period, rise, values[:at] + (value,) + values[at + 1:])}


class Examples(unittest.TestCase):
    """[62], the document's example."""

    def test_paper(self):
        self.assertIs(is_paper(STRICT, EMPTY, paper(STRICT, EMPTY)), True)


class PriceLists(unittest.TestCase):
    """[62], price_lists and are_price_lists."""

    def test_they_are_the_tables(self):
        for words, parts in some_cases(621, 12):
            rule, worth = made(words), worth_of(parts)
            for is_least in (False, True):
                for upto in (0, 1, 13):
                    found = price_lists(rule, worth, upto, is_least=is_least)
                    right = {(left, other): table(rule, worth, left, other, upto, is_least=is_least)
                             for left, other in PAIRS}
                    self.assertTrue(same(found, right))
                    self.assertIs(are_price_lists(rule, worth, found, is_least=is_least), True)
                    self.assertTrue(same(found, right))

    def test_sixty_seats(self):
        for words, parts in some_cases(622, 6):
            rule, worth = made(words), worth_of(parts)
            for is_least in (False, True):
                found = price_lists(rule, worth, 60, is_least=is_least)
                total = words_total(words, *parts, is_least)
                self.assertEqual(found[("wall", "sold")], [total(("wall", length, "sold")) for length in range(61)])
                self.assertIs(are_price_lists(rule, worth, found, is_least=is_least), True)
                long = {pair: listed + [(-1 if is_least else 1) * 10 ** 9] for pair, listed in found.items()}
                self.assertIs(are_price_lists(rule, worth, long, is_least=is_least), False)

    def test_by_words(self):
        chance = random.Random(623)
        seen = []
        for words, parts in some_cases(623, 60):
            rule, worth = made(words), worth_of(parts)
            for is_least in (False, True):
                lists = price_lists(rule, worth, chance.choice([6, 15, 20]), is_least=is_least)
                self.assertTrue(words_keep(words, parts, lists, is_least))
                for _ in range(8):
                    some = copied(lists)
                    for _ in range(chance.choice([1, 1, 2, 5])):
                        listed = some[chance.choice(PAIRS)]
                        listed[chance.randrange(len(listed))] += chance.choice([-9, -1, 1, 9, 200])
                    seen.append(words_keep(words, parts, some, is_least))
                    self.assertIs(are_price_lists(rule, worth, some, is_least=is_least), seen[-1])
        self.assertTrue(50 < sum(seen) < len(seen) - 50)

    def test_one_too_low_or_too_high(self):
        for is_least, step in ((False, -1), (True, 1)):
            lists = price_lists(STRICT, EMPTY, 12, is_least=is_least)
            for pair in PAIRS:
                for at in range(13):
                    lists[pair][at] += step
                    self.assertIs(are_price_lists(STRICT, EMPTY, lists, is_least=is_least), False)
                    lists[pair][at] -= step
            self.assertIs(are_price_lists(STRICT, EMPTY, lists, is_least=is_least), True)
            self.assertIs(are_price_lists(STRICT, EMPTY, lists, is_least=not is_least), False)

    def test_others_than_the_totals(self):
        """Twice the worth of all seats is outbidden by nothing; nor is below nothing what nothing comes to."""
        high = {pair: [10 * length for length in range(20)] for pair in PAIRS}
        low = {pair: [-length for length in range(20)] for pair in PAIRS}
        for words, parts in some_cases(624, 20):
            rule, worth = made(words), worth_of(parts)
            self.assertIs(are_price_lists(rule, worth, high), True)
            self.assertIs(are_price_lists(rule, worth, low, is_least=True), True)
            self.assertIs(are_price_lists(rule, worth, low), words_keep(words, parts, low, False))
            self.assertIs(are_price_lists(rule, worth, high, is_least=True), words_keep(words, parts, high, True))

    def test_one_price_of_each(self):
        for price, is_least, right in ((0, False, True), (1, False, True), (10 ** 40, False, True), (-1, False, False),
                                       (0, True, True), (-1, True, True), (-10 ** 40, True, True), (1, True, False)):
            lists = {pair: [price] for pair in PAIRS}
            self.assertIs(are_price_lists(STRICT, EMPTY, lists, is_least=is_least), right)

    def test_great_prices(self):
        lists = {pair: [10 ** 40 * length for length in range(30)] for pair in PAIRS}
        self.assertIs(are_price_lists(STRICT, EMPTY, lists), True)
        self.assertIs(are_price_lists(STRICT, EMPTY, lists, is_least=True), False)

    def test_just_the_choices_that_are_offered(self):
        """Each choice alone, short ones and long ones, near the ends and far from them, with and without bad lengths."""
        some = [told([3]), told([2], {"wall": [1, 5], "pillar": [2], "sold": [1]}), told([1], where="side"),
                told([5], {"wall": [1, 2, 3, 4, 5], "pillar": [1, 2, 3, 4, 5]}, True), told([2], {"wall": [2]}, offer=3),
                told([4], {"wall": [3], "pillar": [1, 2, 3, 4, 5]}, True, "any", 5)]
        for words in some:
            size = words["sizes"][0]
            for before in list(range(10)) + [13, 20]:
                for after in list(range(10)) + [13, 20]:
                    length = before + size + after
                    lists = stepped(before, after, size, length + 4)
                    right = (size, before) not in words_sales(words, ("wall", length, "pillar"))
                    self.assertIs(are_price_lists(made(words), Worth(), lists), right, (words, before, after))
                    low = {pair: [-price for price in listed] for pair, listed in lists.items()}
                    self.assertIs(are_price_lists(made(words), Worth(), low, is_least=True), right)
                    if length >= words_span(words):
                        forms = {pair: (length + 1, 1, 0, tuple(listed[:length + 2])) for pair, listed in lists.items()}
                        self.assertIs(is_paper(made(words), Worth(), forms), right)

    def test_spoilt_dicts(self):
        lists = price_lists(STRICT, EMPTY, 5)
        wrong = []
        for pair in PAIRS:
            wrong.append({other: lists[other] for other in PAIRS if other != pair})
            wrong.append({**lists, pair: lists[pair][:-1]})
            wrong.append({**lists, pair: lists[pair] + [99]})
            wrong.append({**lists, pair: tuple(lists[pair])})
            wrong.append({**lists, pair: None})
            wrong.append({**lists, pair: dict(enumerate(lists[pair]))})
            wrong.append({**{other: lists[other] for other in PAIRS if other != pair}, "wall": lists[pair]})
            wrong.append({**{other: lists[other] for other in PAIRS if other != pair}, pair + ("wall",): lists[pair]})
            for thing in (True, False, None, "1", (1,), [1], "", {}):
                wrong.append({**lists, pair: lists[pair][:3] + [thing] + lists[pair][4:]})
        for key in (None, 0, "wall", ("wall", "Wall"), ("wall",), ("wall", "wall", "wall"), (0, 0)):
            wrong.append({**lists, key: [9] * 6})
        wrong.extend([{pair: [] for pair in PAIRS}, {}, list(lists.items()), list(lists), [lists], (lists,)])
        wrong.append({pair: [True] for pair in PAIRS})
        wrong.append({pair: [False] for pair in PAIRS})
        for thing in wrong:
            for is_least in (False, True):
                with self.subTest(thing=repr(thing)[:80]):
                    self.assertIs(are_price_lists(STRICT, Worth(), thing, is_least=is_least), False)

    def test_none_and_sixty_two(self):
        for many, right in ((0, False), (1, True), (2, True), (61, True), (62, False), (63, False), (500, False)):
            lists = {pair: [99 * length for length in range(many)] for pair in PAIRS}
            self.assertIs(are_price_lists(STRICT, EMPTY, lists), right)

    def test_any_values(self):
        lists = price_lists(STRICT, EMPTY, 0)
        for thing in any_values():
            self.assertIs(are_price_lists(STRICT, EMPTY, thing), False)
            self.assertIs(are_price_lists(STRICT, EMPTY, {**lists, ("wall", "wall"): thing}), same(thing, [2]))
            number = type(thing) is int and thing >= 0
            self.assertIs(are_price_lists(STRICT, EMPTY, {**lists, ("wall", "wall"): [thing]}), number)

    def test_keys_in_another_order(self):
        lists = price_lists(STRICT, EMPTY, 20)
        self.assertIs(are_price_lists(STRICT, EMPTY, {pair: lists[pair] for pair in reversed(PAIRS)}), True)
        told_of = paper(STRICT, EMPTY)
        self.assertIs(is_paper(STRICT, EMPTY, {pair: told_of[pair] for pair in reversed(PAIRS)}), True)

    def test_all_is_new(self):
        for is_least in (False, True):
            first = price_lists(Rule([2]), EMPTY, 9, is_least=is_least)
            kept = copied(first)
            self.assertEqual(len({id(listed) for listed in first.values()}), 9)
            for listed in first.values():
                listed.clear()
            first.clear()
            self.assertEqual(price_lists(Rule([2]), EMPTY, 9, is_least=is_least), kept)


class Papers(unittest.TestCase):
    """[62], paper and is_paper."""

    def test_paper_tells_the_totals(self):
        for words, parts in some_cases(625, 24):
            rule, worth = made(words), worth_of(parts)
            for is_least in (False, True):
                found = paper(rule, worth, is_least=is_least)
                self.check_form(words, found)
                for left, right in PAIRS:
                    each = form(rule, worth, left, right, is_least=is_least)
                    totals = [value(each, length) for length in range(200)]
                    self.assertEqual(words_prices(found, 200)[(left, right)], totals)
                    self.assertEqual(totals[:121], table(rule, worth, left, right, 120, is_least=is_least))
                self.assertIs(is_paper(rule, worth, found, is_least=is_least), True)

    def check_form(self, words, found):
        self.assertIs(type(found), dict)
        self.assertEqual(list(found), PAIRS)
        self.assertEqual(len({each[:3] for each in found.values()}), 1)
        for each in found.values():
            self.assertEqual([type(part) for part in each], [int, int, int, tuple])
            start, period, rise, values = each
            self.assertTrue(words_span(words) <= start <= 400 and 1 <= period <= 60)
            self.assertTrue(len(values) == start + period and all(type(price) is int for price in values))

    def test_by_words(self):
        chance = random.Random(626)
        seen = []
        for words, parts in some_cases(626, 25):
            rule, worth = made(words), worth_of(parts)
            for is_least in (False, True):
                right = longer(paper(rule, worth, is_least=is_least), chance.randint(0, 4), chance.randint(1, 2))
                start, period, rise, values = right[("sold", "sold")]
                for _ in range(4):
                    some = right
                    for _ in range(chance.choice([1, 1, 2])):
                        pair, at = chance.choice(PAIRS), chance.randrange(start + period)
                        some = with_value(some, pair, at, some[pair][3][at] + chance.choice([-1, 1, 1, 30]))
                    lists = words_prices(some, 2 * start + 2 * period + max(words["sizes"]))
                    seen.append(words_keep(words, parts, lists, is_least))
                    self.assertIs(is_paper(rule, worth, some, is_least=is_least), seen[-1])
        self.assertTrue(20 < sum(seen) < len(seen) - 20)

    def test_what_only_great_lengths_show(self):
        """Forms that are outbidden only where both parts have start + period - 1 seats, and by multiples of that."""
        words, parts, start, period = told([2]), ({}, 0, 0), 8, 3
        once = tuple((50 + (length - start + 1) // period if length >= start else length // 3) for length in range(11))
        both = tuple((100 + (length - 2 * start - 1) // period if length >= start else 1000) for length in range(11))
        some = {pair: (start, period, 1, tuple(1000 + length // period for length in range(11))) for pair in PAIRS}
        for pair in (("sold", "sold"), ("pillar", "sold"), ("sold", "pillar")):
            some[pair] = (start, period, 1, tuple(length // period for length in range(11)))
        some[("wall", "sold")] = some[("sold", "wall")] = (start, period, 1, once)
        some[("wall", "wall")] = (start, period, 1, both)
        last = 2 * (start + period - 1) + 2
        self.assertTrue(words_keep(words, parts, words_prices(some, last), False))
        self.assertFalse(words_keep(words, parts, words_prices(some, last + 1), False))
        self.assertIs(is_paper(Rule([2]), Worth(), some), False)
        right = {**some, ("wall", "wall"): (start, period, 1, tuple(price + 1 for price in both))}
        self.assertTrue(words_keep(words, parts, words_prices(right, last + 30), False))
        self.assertIs(is_paper(Rule([2]), Worth(), right), True)

    def test_raised_and_lowered(self):
        for words, parts in some_cases(627, 10):
            rule, worth = made(words), worth_of(parts)
            for is_least, step in ((False, 1), (True, -1)):
                right = paper(rule, worth, is_least=is_least)
                start, period, rise, values = right[("sold", "sold")]
                for pair in PAIRS:
                    for at in range(start + period):
                        some = with_value(right, pair, at, right[pair][3][at] - step)
                        self.assertIs(is_paper(rule, worth, some, is_least=is_least), False)
                less = {pair: each[:2] + (each[2] - step,) + each[3:] for pair, each in right.items()}
                self.assertIs(is_paper(rule, worth, less, is_least=is_least), False)
                dear = {pair: (start, period, step * 10 * period,
                               tuple(step * 10 * length for length in range(start + period))) for pair in PAIRS}
                self.assertIs(is_paper(rule, worth, dear, is_least=is_least), True)

    def test_greater_starts_and_multiples_of_the_period(self):
        for words, parts in some_cases(628, 5):
            rule, worth = made(words), worth_of(parts)
            for is_least in (False, True):
                right = paper(rule, worth, is_least=is_least)
                for more, times in ((1, 1), (0, 2), (7, 3), (30, 2)):
                    some = longer(right, more, times)
                    self.assertIs(is_paper(rule, worth, some, is_least=is_least), True)
                    wrong = with_value(some, ("wall", "sold"), 4, some[("wall", "sold")][3][4] + (1 if is_least else -1))
                    self.assertIs(is_paper(rule, worth, wrong, is_least=is_least), False)

    def test_bounds_of_start_and_period(self):
        right = paper(STRICT, EMPTY)
        start, period, rise, values = right[("wall", "wall")]
        self.assertEqual((start, period), (4, 5))
        self.assertIs(is_paper(STRICT, EMPTY, longer(right, 400 - start, 60 // period)), True)
        self.assertIs(is_paper(STRICT, EMPTY, longer(right, 401 - start, 1)), False)
        self.assertIs(is_paper(STRICT, EMPTY, longer(right, 0, 13)), False)
        bare = {pair: (3, 1, 1, (0, 1, 2, 3)) for pair in PAIRS}
        for times, good in ((59, True), (60, True), (61, False)):
            self.assertIs(is_paper(Rule([1]), Worth({1: 1}), longer(bare, 0, times)), good)
        less = {pair: (3, 5, 3, tuple(words_prices(right, 8)[pair])) for pair in PAIRS}
        self.assertIs(is_paper(STRICT, EMPTY, less), False)
        bare = Rule([1], where="side")
        free = {pair: (2, 1, 1, (0, 1, 2)) for pair in PAIRS}
        self.assertIs(is_paper(bare, Worth({1: 1}), free), True)
        self.assertIs(is_paper(bare, Worth({1: 1}), {pair: (1, 1, 1, (0, 1)) for pair in PAIRS}), False)
        self.assertIs(is_paper(bare, Worth({1: 1}), {pair: (2, 0, 1, (0, 1)) for pair in PAIRS}), False)

    def test_spoilt_forms(self):
        right = paper(STRICT, EMPTY)
        start, period, rise, values = right[("wall", "wall")]
        wrong = []
        for pair in PAIRS:
            values = right[pair][3]
            wrong.append({other: right[other] for other in PAIRS if other != pair})
            others = [
                (start + 1, period, rise, values + (9,)), (start, period + 1, rise, values + (9,)),
                (start, period, rise + 1, values), (start, period, rise, values[:-1]),
                (start, period, rise, values + (9,)), (start, period, rise, list(values)),
                (start, period, rise), (start, period, rise, values, values), [start, period, rise, values],
                (None, period, rise, values), (start, "5", rise, values), (start, period, None, values),
                (start, period, rise, None), (start, period, rise, values[:4] + (True,) + values[5:]),
                (start, period, rise, values[:4] + ("3",) + values[5:]), (), None]
            wrong.extend([{**right, pair: other} for other in others])
        for key in (None, 0, "wall", ("wall", "Wall"), ("wall",), ("wall", "wall", "wall")):
            wrong.append({**right, key: right[("wall", "wall")]})
        wrong.extend([{}, list(right.items()), [right], (right,)])
        for thing in wrong:
            with self.subTest(thing=repr(thing)[:80]):
                self.assertIs(is_paper(STRICT, EMPTY, thing), False)

    def test_truths_in_forms(self):
        rule, worth = Rule([1], where="side"), Worth({1: 1})
        right = {pair: (2, 1, 1, (0, 1, 2)) for pair in PAIRS}
        self.assertIs(is_paper(rule, worth, right), True)
        for each in ((2, True, 1, (0, 1, 2)), (2, 1, True, (0, 1, 2)), (2, 1, 1, (False, 1, 2)), (2, 1, 1, (0, True, 2))):
            self.assertIs(is_paper(rule, worth, {pair: each for pair in PAIRS}), False)
            self.assertIs(is_paper(rule, worth, {**right, ("wall", "wall"): each}), False)

    def test_any_values(self):
        right = paper(STRICT, EMPTY)
        for thing in any_values():
            for is_least in (False, True):
                self.assertIs(is_paper(STRICT, EMPTY, thing, is_least=is_least), False)
                self.assertIs(is_paper(STRICT, EMPTY, {**right, ("wall", "wall"): thing}, is_least=is_least), False)
            for at in range(4):
                each = list(right[("wall", "wall")])
                each[at] = thing
                self.assertIs(is_paper(STRICT, EMPTY, {**right, ("wall", "wall"): tuple(each)}),
                              at < 3 and same(thing, right[("wall", "wall")][at]))

    def test_greatest_and_least_are_not_the_same(self):
        rule, worth = Rule([2, 3], {"sold": [1]}), Worth({2: 1, 3: 4}, 2)
        self.assertIs(is_paper(rule, worth, paper(rule, worth), is_least=False), True)
        self.assertIs(is_paper(rule, worth, paper(rule, worth), is_least=True), False)
        self.assertIs(is_paper(rule, worth, paper(rule, worth, is_least=True)), False)
        self.assertIs(are_price_lists(rule, worth, price_lists(rule, worth, 20), is_least=True), False)
        self.assertIs(are_price_lists(rule, worth, price_lists(rule, worth, 20, is_least=True)), False)

    def test_what_is_passed_stays(self):
        right, lists = paper(STRICT, EMPTY), price_lists(STRICT, EMPTY, 9)
        kept = copied((right, lists))
        for is_least in (False, True):
            is_paper(STRICT, EMPTY, right, is_least=is_least)
            are_price_lists(STRICT, EMPTY, lists, is_least=is_least)
        self.assertTrue(same((right, lists), kept))

    def test_a_paper_is_new(self):
        first = paper(STRICT, EMPTY)
        kept = copied(first)
        first.clear()
        self.assertEqual(paper(STRICT, EMPTY), kept)


class Errors(unittest.TestCase):
    """[50] and [62]: NoSize(until)."""

    def test_no_size(self):
        for until in (1, 3, 4, 5):
            worth = Worth({2: 1}, 1, until=until)
            for is_least in (False, True):
                for ask in (lambda: price_lists(STRICT, worth, 3, is_least=is_least),
                            lambda: paper(STRICT, worth, is_least=is_least),
                            lambda: are_price_lists(STRICT, worth, None, is_least=is_least),
                            lambda: is_paper(STRICT, worth, None, is_least=is_least),
                            lambda: is_paper(STRICT, worth, paper(STRICT, EMPTY), is_least=is_least)):
                    with self.assertRaises(NoSize) as caught:
                        ask()
                    self.assertTrue(same(caught.exception.size, until))


if __name__ == "__main__":
    unittest.main()
