import random
import unittest

from loneseats.errors import NoSize
from loneseats.guides import guide, is_guide
from loneseats.papers import paper
from loneseats.rules import Rule
from loneseats.worths import Worth
from tests.plain import (PAIRS, any_values, copied, made, same, some_cases, told, words_may_end, words_sales, worth_of)
from tests.test_papers import longer, with_value, words_prices

EMPTY, STRICT = Worth(free=1), Rule([2], {"sold": [1]})


def words_guides(words, parts, lists, stretch, member):
    """Whether a member, None or a choice, comes to just what is listed of its stretch."""
    prices, free, until = parts
    left, length, right = stretch
    if member is None:
        return words_may_end(words, until, stretch) and free * length == lists[(left, right)][length]
    if member not in words_sales(words, stretch):
        return False
    size, before = member
    rest = lists[(left, "sold")][before] + lists[("sold", right)][length - size - before]
    return prices.get(size, 0) + rest == lists[(left, right)][length]


class Examples(unittest.TestCase):
    """[63], the document's example."""

    def test_guide(self):
        self.assertIs(is_guide(STRICT, EMPTY, paper(STRICT, EMPTY), guide(STRICT, EMPTY)), True)


class Guides(unittest.TestCase):
    """[63], guide and is_guide."""

    def test_guide_of_a_paper(self):
        for words, parts in some_cases(631, 20):
            rule, worth = made(words), worth_of(parts)
            for is_least in (False, True):
                forms, found = paper(rule, worth, is_least=is_least), guide(rule, worth, is_least=is_least)
                start, period, rise, values = forms[("wall", "sold")]
                many = 2 * start + period + max(words["sizes"])
                lists = words_prices(forms, many)
                self.assertIs(type(found), dict)
                self.assertEqual(list(found), PAIRS)
                for (left, right), members in found.items():
                    self.assertIs(type(members), list)
                    self.assertEqual(len(members), many)
                    for length, member in enumerate(members):
                        self.assertTrue(member is None or type(member) is tuple)
                        self.assertTrue(words_guides(words, parts, lists, (left, length, right), member))
                self.assertIs(is_guide(rule, worth, forms, found), True)

    def test_members_otherwise(self):
        chance = random.Random(632)
        seen = []
        for words, parts in some_cases(632, 30):
            rule, worth = made(words), worth_of(parts)
            is_least = chance.random() < 0.5
            forms, found = paper(rule, worth, is_least=is_least), guide(rule, worth, is_least=is_least)
            lists = words_prices(forms, len(found[("wall", "wall")]))
            for _ in range(40):
                (left, right), length = chance.choice(PAIRS), chance.randrange(len(found[("wall", "wall")]))
                sales = words_sales(words, (left, length, right))
                kind = chance.choice(["none", "sale", "sale", "any"])
                member = None
                if kind == "sale" and sales:
                    member = chance.choice(sales)
                elif kind == "any":
                    member = (chance.randint(1, 5), chance.randint(0, length + 1))
                some = {**found, (left, right): list(found[(left, right)])}
                some[(left, right)][length] = member
                seen.append(words_guides(words, parts, lists, (left, length, right), member))
                self.assertIs(is_guide(rule, worth, forms, some), seen[-1])
        self.assertTrue(100 < sum(seen) < len(seen) - 100)

    def test_none_where_no_play_may_end(self):
        rule, worth = Rule([2]), Worth()
        forms, found = paper(rule, worth), guide(rule, worth)
        for length, right in ((0, True), (1, True), (2, False), (-1, False)):
            some = copied(found)
            some[("wall", "sold")][length] = None
            self.assertIs(is_guide(rule, worth, forms, some), right)

    def test_none_that_comes_to_less(self):
        forms = {pair: (4, 2, 0, (0, 1, 0, 1, 0, 1)) for pair in PAIRS}
        found = {pair: [None, None] + [(2, 0)] * 10 for pair in PAIRS}
        self.assertIs(is_guide(Rule([2]), EMPTY, forms, found), True)
        for at in (0, 1):
            wrong = with_value(forms, ("wall", "wall"), at, 2)
            self.assertIs(is_guide(Rule([2]), EMPTY, wrong, found), False)

    def test_choices_with_truths(self):
        rule, worth = Rule([1], where="side"), Worth({1: 1})
        forms = {pair: (2, 1, 1, (0, 1, 2)) for pair in PAIRS}
        found = {pair: [None, (1, 0), (1, 1), (1, 0), (1, 3), (1, 0)] for pair in PAIRS}
        self.assertIs(is_guide(rule, worth, forms, found), True)
        for member in ((True, 0), (1, True), (1, False), [1, 1], (1,), (1, 1, 0), (2, 0), (1, -1), (1, 2), "11", False,
                       0, (), [], (0, 0)):
            some = copied(found)
            some[("sold", "wall")][2] = member
            self.assertIs(is_guide(rule, worth, forms, some), False, member)

    def test_longer_forms(self):
        for words, parts in some_cases(633, 6):
            rule, worth = made(words), worth_of(parts)
            forms, found = paper(rule, worth), guide(rule, worth)
            for more, times in ((0, 2), (3, 1)):
                self.assertIs(is_guide(rule, worth, longer(forms, more, times), found), False)
            start, period, rise, values = forms[("wall", "wall")]
            many = 2 * start + period + max(words["sizes"])
            half = {pair: members[:many] for pair, members in found.items()}
            self.assertIs(is_guide(rule, worth, forms, half), True)

    def test_forms_that_are_no_paper(self):
        """A guide shows what a play comes to; whether another play comes to more, it does not tell."""
        rule, worth = Rule([1, 2], where="side"), Worth({1: 1, 2: 9})
        forms = {pair: (3, 1, 1, (0, 1, 2, 3)) for pair in PAIRS}
        found = {pair: [None] + [(1, 0)] * 8 for pair in PAIRS}
        self.assertIs(is_guide(rule, worth, forms, found), True)
        found[("wall", "wall")][6] = (2, 0)
        self.assertIs(is_guide(rule, worth, forms, found), False)

    def test_greatest_and_least(self):
        rule, worth = Rule([2, 3], {"sold": [1]}), Worth({2: 1, 3: 4}, 2)
        for is_least in (False, True):
            forms, found = paper(rule, worth, is_least=is_least), guide(rule, worth, is_least=is_least)
            self.assertIs(is_guide(rule, worth, forms, found), True)
            self.assertIs(is_guide(rule, worth, paper(rule, worth, is_least=not is_least), found), False)
        self.assertTrue(same(guide(rule, worth), guide(rule, worth, is_least=False)))


class Spoilt(unittest.TestCase):
    """[63], is_guide of what is no guide, or of what are no forms."""

    def test_lists(self):
        forms, found = paper(STRICT, EMPTY), guide(STRICT, EMPTY)
        for pair in PAIRS:
            members = found[pair]
            wrong = [{other: found[other] for other in PAIRS if other != pair}, {**found, pair: members[:-1]},
                     {**found, pair: members + [None]}, {**found, pair: tuple(members)}, {**found, pair: None},
                     {**found, pair: []}, {**found, pair: dict(enumerate(members))},
                     {**{other: found[other] for other in PAIRS if other != pair}, pair[0]: members}]
            for thing in wrong:
                self.assertIs(is_guide(STRICT, EMPTY, forms, thing), False)
        for key in (None, 0, "wall", ("wall", "Wall"), ("wall",), ("wall", "wall", "wall")):
            self.assertIs(is_guide(STRICT, EMPTY, forms, {**found, key: found[("wall", "wall")]}), False)
        both = {pair: members[:-1] for pair, members in found.items()}
        self.assertIs(is_guide(STRICT, EMPTY, forms, both), False)
        both = {pair: members + [(2, 0)] for pair, members in found.items()}
        self.assertIs(is_guide(STRICT, EMPTY, forms, both), False)
        turned = {pair: found[pair] for pair in reversed(PAIRS)}
        self.assertIs(is_guide(STRICT, EMPTY, forms, turned), True)

    def test_forms(self):
        forms, found = paper(STRICT, EMPTY), guide(STRICT, EMPTY)
        start, period, rise, values = forms[("wall", "wall")]
        for pair in PAIRS:
            values = forms[pair][3]
            for each in ((start, period, rise), [start, period, rise, values], (start, period, rise, list(values)),
                         (start, period, rise + 1, values), (start, period, rise, values[:-1]), None,
                         (start, period, rise, (False,) + values[1:]), (start, period, True, values)):
                self.assertIs(is_guide(STRICT, EMPTY, {**forms, pair: each}, found), False)
            rest = {other: forms[other] for other in PAIRS if other != pair}
            self.assertIs(is_guide(STRICT, EMPTY, rest, found), False)
            for at in range(start + period):
                wrong = with_value(forms, pair, at, values[at] + 1)
                self.assertIs(is_guide(STRICT, EMPTY, wrong, found), False)

    def test_any_values(self):
        forms, found = paper(STRICT, EMPTY), guide(STRICT, EMPTY)
        for thing in any_values():
            self.assertIs(is_guide(STRICT, EMPTY, forms, thing), False)
            self.assertIs(is_guide(STRICT, EMPTY, thing, found), False)
            self.assertIs(is_guide(STRICT, EMPTY, thing, thing), False)
            self.assertIs(is_guide(STRICT, EMPTY, {**forms, ("wall", "wall"): thing}, found), False)
            self.assertIs(is_guide(STRICT, EMPTY, forms, {**found, ("wall", "wall"): thing}), False)
            some = copied(found)
            some[("wall", "sold")][4] = thing
            right = same(thing, None) and words_guides(told([2], {"sold": [1]}), ({}, 1, 0), words_prices(forms, 20),
                                                       ("wall", 4, "sold"), None)
            right = right or same(thing, (2, 1)) and words_guides(
                told([2], {"sold": [1]}), ({}, 1, 0), words_prices(forms, 20), ("wall", 4, "sold"), (2, 1))
            self.assertIs(is_guide(STRICT, EMPTY, forms, some), bool(right), repr(thing)[:60])

    def test_what_is_passed_stays(self):
        forms, found = paper(STRICT, EMPTY), guide(STRICT, EMPTY)
        kept = copied((forms, found))
        is_guide(STRICT, EMPTY, forms, found)
        self.assertTrue(same((forms, found), kept))

    def test_all_is_new(self):
        first = guide(Rule([2]), EMPTY)
        kept = copied(first)
        self.assertEqual(len({id(members) for members in first.values()}), 9)
        for members in first.values():
            members.clear()
        self.assertTrue(same(guide(Rule([2]), EMPTY), kept))


class Errors(unittest.TestCase):
    """[50] and [63]: NoSize(until)."""

    def test_no_size(self):
        forms, found = paper(STRICT, EMPTY), guide(STRICT, EMPTY)
        for until in (1, 3, 4, 5):
            worth = Worth({2: 1}, 1, until=until)
            for ask in (lambda: guide(STRICT, worth), lambda: guide(STRICT, worth, is_least=True),
                        lambda: is_guide(STRICT, worth, forms, found), lambda: is_guide(STRICT, worth, None, None)):
                with self.assertRaises(NoSize) as caught:
                    ask()
                self.assertTrue(same(caught.exception.size, until))


if __name__ == "__main__":
    unittest.main()
