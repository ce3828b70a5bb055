import unittest

from loneseats.errors import LoneError, Wrong
from loneseats.rules import Rule
from loneseats.worths import Worth, may_end
from tests.plain import ENDS, any_values, made, nested, same, some_rules, words_may_end

FULL = {"prices": {3: 9, 1: 0, 2: 4}, "free": 2, "until": 3}


def full(**other):
    """The Worth of FULL, with other arguments."""
    told = {**FULL, **other}
    return Worth(told["prices"], told["free"], until=told["until"])


def facts(worth):
    """All that a Worth tells."""
    return worth.prices(), [worth.price(size) for size in range(1, 6)], worth.free, worth.until


class Told(unittest.TestCase):
    """[50], what a Worth tells."""

    def test_all(self):
        self.assertTrue(same(facts(full()), ({2: 4, 3: 9}, [0, 4, 9, 0, 0], 2, 3)))

    def test_left_out(self):
        self.assertTrue(same(facts(Worth()), ({}, [0] * 5, 0, 0)))
        self.assertTrue(same(facts(Worth(None)), ({}, [0] * 5, 0, 0)))
        self.assertTrue(same(facts(Worth({})), ({}, [0] * 5, 0, 0)))
        self.assertTrue(same(facts(Worth(free=9)), ({}, [0] * 5, 9, 0)))
        self.assertTrue(same(facts(Worth(until=5)), ({}, [0] * 5, 0, 5)))

    def test_by_keyword(self):
        self.assertEqual(Worth(free=2, until=3, prices=FULL["prices"]), full())

    def test_bounds(self):
        told = {5: 9, 4: 9, 3: 9, 2: 9, 1: 9}
        self.assertTrue(same(facts(Worth(told, 9, until=1)), ({size: 9 for size in range(1, 6)}, [9] * 5, 9, 1)))

    def test_total(self):
        worth = full()
        self.assertEqual(worth.total({}, 0), 0)
        self.assertEqual(worth.total({}, 7), 14)
        self.assertEqual(worth.total({3: 2, 2: 1, 1: 5, 5: 3}, 0), 22)
        self.assertEqual(worth.total({2: 3}, 1), 14)
        self.assertEqual(worth.total({2: 0}, 0), 0)
        self.assertEqual(Worth({2: 5}).total({2: 2}, 30), 10)

    def test_copied_and_new(self):
        prices = {3: 9, 1: 0, 2: 4}
        worth = Worth(prices, 2, until=3)
        prices[5] = 7
        prices[2] = 1
        worth.prices()[4] = 4
        self.assertTrue(same(facts(worth), ({2: 4, 3: 9}, [0, 4, 9, 0, 0], 2, 3)))
        sold = {3: 1, 2: 2}
        worth.total(sold, 1)
        self.assertTrue(same([prices, sold], [{3: 9, 1: 0, 2: 1, 5: 7}, {3: 1, 2: 2}]))

    def test_properties_are_not_assigned(self):
        for name in ("free", "until"):
            with self.assertRaises(AttributeError):
                setattr(full(), name, 1)


class WrongPlaces(unittest.TestCase):
    """[50] and [4], the errors of Worth."""

    bent = {
        "prices": [[], (), 0, True, False, "", "2", [(1, 2)], {0: 1}, {6: 1}, {"1": 1}, {True: 1}, {None: 1},
                   {(1,): 1}, {1: -1}, {1: 10}, {1: True}, {1: False}, {1: None}, {1: "1"}, {1: [1]}, {2: 3, 7: 3},
                   {2: 3, 3: 10}, nested(30), {1}],
        "free": [-1, 10, True, False, None, "0", [0], (1,), {}, 10 ** 40],
        "until": [-1, 6, True, False, None, "0", [0], (1,), {}, 10 ** 40],
    }

    def test_each_place(self):
        for place, name in enumerate(FULL):
            for thing in self.bent[name]:
                with self.subTest(name=name, thing=repr(thing)[:60]):
                    with self.assertRaises(Wrong) as caught:
                        full(**{name: thing})
                    self.assertEqual(caught.exception.place, place)

    def test_the_first_of_several(self):
        for place, name in enumerate(FULL):
            with self.assertRaises(Wrong) as caught:
                full(**{other: self.bent[other][0] for other in list(FULL)[place:]})
            self.assertEqual(caught.exception.place, place)

    def test_any_values(self):
        for place, name in enumerate(FULL):
            for thing in any_values() + [Worth(), Rule([1])]:
                try:
                    full(**{name: thing})
                except LoneError as error:
                    self.assertIs(type(error), Wrong)
                    self.assertEqual(error.place, place)

    def test_right_at_the_bounds(self):
        for told in ({"prices": None}, {"prices": {}}, {"prices": {1: 0, 5: 9}}, {"free": 0}, {"free": 9},
                     {"until": 0}, {"until": 1}, {"until": 5}):
            self.assertIs(type(full(**told)), Worth)


class Equal(unittest.TestCase):
    """[50], when two Worths are equal."""

    def test_each_part_counts(self):
        worths = [full(), full(prices={3: 9}), full(prices={3: 9, 2: 5}), full(prices=None), full(free=3),
                  full(until=0), full(until=2), full(prices={3: 9, 2: 4, 5: 1})]
        for at, one in enumerate(worths):
            for there, other in enumerate(worths):
                self.assertIs(one == other, at == there)
                self.assertIs(one != other, at != there)

    def test_order_and_prices_of_nothing_do_not_count(self):
        self.assertIs(full() == full(prices={2: 4, 3: 9, 5: 0}), True)
        self.assertIs(full() != full(prices={2: 4, 3: 9, 5: 0}), False)
        self.assertIs(Worth() == Worth({1: 0}, 0, until=0), True)

    def test_nothing_else(self):
        for thing in any_values() + [FULL, facts(full())]:
            self.assertIs(full() == thing, False)
            self.assertIs(full() != thing, True)


class MayEnd(unittest.TestCase):
    """[50], may_end."""

    def test_until_stuck(self):
        rule = Rule([2, 3], {"sold": [1]})
        self.assertIs(may_end(rule, Worth(), ("wall", 1, "wall")), True)
        self.assertIs(may_end(rule, Worth(), ("wall", 2, "wall")), False)
        self.assertIs(may_end(rule, Worth(), ("sold", 3, "sold")), False)
        self.assertIs(may_end(rule.with_sizes([2]), Worth(), ("sold", 3, "sold")), True)

    def test_until_a_size_of_the_rule(self):
        rule = Rule([2, 3], {"sold": [1]})
        self.assertIs(may_end(rule, Worth(until=2), ("sold", 3, "sold")), True)
        self.assertIs(may_end(rule, Worth(until=3), ("sold", 3, "sold")), False)
        self.assertIs(may_end(rule, Worth(until=3), ("wall", 2, "wall")), True)

    def test_until_a_size_that_the_rule_has_not(self):
        for until in (1, 4, 5):
            self.assertIs(may_end(Rule([2, 3]), Worth(until=until), ("wall", 50, "wall")), True)
            self.assertIs(may_end(Rule([2, 3]), Worth(until=until), ("wall", 0, "wall")), True)

    def test_by_words(self):
        for words in some_rules(50, 20):
            for until in range(6):
                for left in ENDS:
                    for length in range(10):
                        stretch = (left, length, "sold")
                        self.assertIs(may_end(made(words), Worth({2: 1}, 1, until=until), stretch),
                                      words_may_end(words, until, stretch))


if __name__ == "__main__":
    unittest.main()
