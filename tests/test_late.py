import random
import time
import unittest

from loneseats.errors import BadSale, BadStep, NoSize
from loneseats.late import late_play, late_table, late_total
from loneseats.rules import Rule
from loneseats.totals import play_for, table, total_of
from loneseats.worths import Worth
from tests.plain import (ENDS, PAIRS, any_values, copied, made, reached, same, some_rules, some_worth, told, words_count,
                         words_free, words_is_end, words_may_end, words_sales, words_sales_then, words_states, worth_of)

EMPTY, STRICT = Worth(free=1), Rule([2], {"sold": [1]})


def words_ends(rules, until, stretch):
    """All sets of sales in which plays by rules that follow one another may end, state by state."""
    states = [()]
    for words in rules:
        found = set()
        for state in states:
            found.update(reached(state, lambda later: words_sales_then(words, stretch, later)))
        states = sorted(found)
    return [state for state in states if words_is_end(rules[-1], until, stretch, state)]


def words_late(rules, prices, free, until, is_least):
    """The function from stretches to the best totals by a step and those behind it, by the sums of parts."""
    known = {}

    def total(step, stretch):
        left, length, right = stretch
        if step == len(rules):
            return free * length if words_may_end(rules[-1], until, stretch) else None
        if (step, stretch) not in known:
            found = [total(step + 1, stretch)] if total(step + 1, stretch) is not None else []
            for size, before in words_sales(rules[step], stretch):
                found.append(prices.get(size, 0) + total(step, (left, before, "sold"))
                             + total(step, ("sold", length - size - before, right)))
            known[(step, stretch)] = min(found) if is_least else max(found)
        return known[(step, stretch)]

    return lambda stretch: total(0, stretch)


def some_trains(seed, many):
    """Lists of one to three rules, told by dicts, each with what makes a worth for the last one."""
    chance = random.Random(seed)
    rules = some_rules(seed, 3 * many)
    found = []
    for at in range(many):
        train = [chance.choice(rules) for _ in range(at % 3 + 1)]
        found.append((train, some_worth(chance, train[-1]["sizes"])))
    return found


class Examples(unittest.TestCase):
    """[83], the document's example."""

    def test_example(self):
        rules = [Rule([2, 3], {"sold": [1]}), STRICT]
        self.assertTrue(same(late_table(rules, EMPTY, "sold", "sold", 6), [0, 1, 0, 3, 0, 3, 3]))


class Late(unittest.TestCase):
    """[83] and [12], late_table and late_play."""

    def check_play(self, train, parts, stretch, is_least, total):
        prices, free, until = parts
        rules, worth = [made(words) for words in train], worth_of(parts)
        plays = late_play(rules, worth, stretch, is_least=is_least)
        self.assertTrue(type(plays) is list and all(type(play) is list for play in plays))
        self.assertEqual(len({id(play) for play in plays}), len(rules))
        state = ()
        for words, play in zip(train, plays):
            for sale in play:
                self.assertIs(type(sale), tuple)
                self.assertIn(sale, words_sales_then(words, stretch, state))
                state += (sale,)
        self.assertTrue(words_is_end(train[-1], until, stretch, state))
        self.assertEqual(words_count(prices, free, stretch, state), total)
        self.assertTrue(same(late_total(rules, worth, stretch, plays), total))

    def test_all_plays_of_short_stretches(self):
        chance = random.Random(831)
        for train, parts in some_trains(831, 60):
            prices, free, until = parts
            left, right = chance.choice(ENDS), chance.choice(ENDS)
            upto = chance.choice([5, 6, 7])
            totals = [[words_count(prices, free, (left, length, right), state)
                       for state in words_ends(train, until, (left, length, right))] for length in range(upto + 1)]
            for is_least in (False, True):
                best = [min(some) if is_least else max(some) for some in totals]
                rules, worth = [made(words) for words in train], worth_of(parts)
                self.assertTrue(same(late_table(rules, worth, left, right, upto, is_least=is_least), best))
                for length in range(upto + 1):
                    self.assertTrue(same(late_table(rules, worth, left, right, length, is_least=is_least),
                                         best[:length + 1]))
                    self.check_play(train, parts, (left, length, right), is_least, best[length])

    def test_sixty_seats(self):
        chance = random.Random(832)
        for train, parts in some_trains(832, 18):
            for is_least in (False, True):
                total = words_late(train, *parts, is_least)
                left, right = chance.choice(PAIRS)
                rules, worth = [made(words) for words in train], worth_of(parts)
                found = late_table(rules, worth, left, right, 60, is_least=is_least)
                self.assertTrue(same(found, [total((left, length, right)) for length in range(61)]))
                self.check_play(train, parts, (left, 60, right), is_least, found[60])
                self.check_play(train, parts, (left, 37, right), is_least, found[37])

    def test_one_rule_alone(self):
        for train, parts in some_trains(833, 40):
            rule, worth = made(train[0]), worth_of(parts[:2] + (0,))
            for is_least in (False, True):
                for left, right in PAIRS:
                    self.assertEqual(late_table([rule], worth, left, right, 30, is_least=is_least),
                                     table(rule, worth, left, right, 30, is_least=is_least))
                    stretch = (left, 25, right)
                    play, = late_play([rule], worth, stretch, is_least=is_least)
                    best = play_for(rule, worth, stretch, is_least=is_least)
                    self.assertEqual(total_of(rule, worth, stretch, play), total_of(rule, worth, stretch, best))
                    self.assertEqual(late_total([rule], worth, stretch, [play]), total_of(rule, worth, stretch, best))

    def test_a_rule_behind_itself(self):
        for train, parts in some_trains(834, 10):
            rule, worth = made(train[0]), worth_of(parts[:2] + (0,))
            for many in (2, 3):
                self.assertEqual(late_table([rule] * many, worth, "wall", "sold", 40),
                                 table(rule, worth, "wall", "sold", 40))

    def test_a_rule_may_go_at_any_time(self):
        # The first rule sells nothing that brings anything, but offers something all the time.
        self.assertEqual(late_table([Rule([1]), Rule([5])], Worth({5: 9}), "wall", "wall", 10), [0] * 5 + [9] * 5 + [18])
        self.assertEqual(late_play([Rule([1]), Rule([5])], Worth({5: 9}), ("wall", 5, "wall")), [[], [(0, 5)]])
        # By the first rule alone a seat can be sold, so that the last one is stuck at once.
        self.assertEqual(late_table([Rule([1]), Rule([5])], Worth({5: 9}), "wall", "wall", 7, is_least=True), [0] * 8)

    def test_the_last_rule_says_where_a_play_may_end(self):
        first, last = Rule([3]), Rule([2])
        self.assertEqual(late_table([first, last], EMPTY, "wall", "wall", 4), [0, 1, 0, 1, 2])
        self.assertEqual(late_table([last, first], EMPTY, "wall", "wall", 4), [0, 1, 2, 1, 2])
        until = Worth(free=1, until=2)
        both = Rule([2, 3])
        self.assertEqual(late_table([first, both], until, "wall", "wall", 4), [0, 1, 0, 1, 2])
        # until may be a size of the last rule alone.
        self.assertEqual(late_table([Rule([1]), first, last], until, "wall", "wall", 2), [0, 1, 1])

    def test_a_plan_of_sums(self):
        # What can be done in two stretches with the same moments of change is what can be done in each.
        for train, parts in some_trains(835, 9):
            prices, free, until = parts
            stretches = [("wall", 3, "pillar"), ("pillar", 2, "wall")]
            totals = [{words_count(prices, free, stretch, state) for state in words_ends(train, until, stretch)}
                      for stretch in stretches]
            for is_least in (False, True):
                best = [late_table([made(words) for words in train], worth_of(parts), left, right, length,
                                   is_least=is_least)[length] for left, length, right in stretches]
                both = [one + other for one in totals[0] for other in totals[1]]
                self.assertEqual(sum(best), min(both) if is_least else max(both))

    def test_least_is_not_the_default(self):
        rules = [Rule([2, 3], {"sold": [1]}), STRICT]
        for left, right in PAIRS:
            self.assertEqual(late_table(rules, EMPTY, left, right, 9),
                             late_table(rules, EMPTY, left, right, 9, is_least=False))
            self.assertNotEqual(late_table(rules, EMPTY, left, right, 9),
                                late_table(rules, EMPTY, left, right, 9, is_least=True))
        one, other = (late_total(rules, EMPTY, ("wall", 9, "wall"), late_play(rules, EMPTY, ("wall", 9, "wall"), **given))
                      for given in ({}, {"is_least": True}))
        self.assertGreater(one, other)

    def test_no_seats(self):
        for left, right in PAIRS:
            for many in (1, 2, 3):
                self.assertEqual(late_table([STRICT] * many, EMPTY, left, right, 0), [0])
                self.assertEqual(late_play([STRICT] * many, EMPTY, (left, 0, right)), [[]] * many)
                self.assertEqual(late_total([STRICT] * many, EMPTY, (left, 0, right), [[] for _ in range(many)]), 0)

    def test_in_time(self):
        first = time.process_time()
        rules = [Rule([1, 2, 3, 4, 5], {"sold": [1], "wall": [2]}), Rule([1, 3, 5], {"wall": [4]}, soft=True), Rule([2])]
        late_play(rules, Worth({1: 1, 2: 3, 3: 4, 5: 9}, 1), ("wall", 60, "pillar"))
        late_table(rules, Worth({1: 1, 2: 3, 3: 4, 5: 9}, 1), "wall", "pillar", 60, is_least=True)
        self.assertLess(time.process_time() - first, 5)

    def test_what_is_passed_stays_and_answers_are_new(self):
        rules = [Rule([3]), STRICT]
        kept = copied(rules)
        first = late_play(rules, EMPTY, ("wall", 9, "wall"), is_least=True)
        told_play = copied(first)
        self.assertEqual(rules, kept)
        for play in first:
            play.clear()
        self.assertEqual(late_play(rules, EMPTY, ("wall", 9, "wall"), is_least=True), told_play)
        numbers = late_table(rules, EMPTY, "wall", "wall", 9)
        again = list(numbers)
        numbers.clear()
        self.assertEqual(late_table(rules, EMPTY, "wall", "wall", 9), again)


class Total(unittest.TestCase):
    """[83], late_total."""

    rules = [Rule([3]), STRICT, Rule([2])]

    def of(self, plays, rules=None, worth=EMPTY, stretch=("wall", 9, "wall")):
        return late_total(rules or self.rules, worth, stretch, plays)

    def test_right_plays(self):
        worth = Worth({2: 5, 3: 7}, 1)
        self.assertTrue(same(self.of([[(0, 3)], [(3, 2)], [(5, 2), (7, 2)]], worth=worth), 22))
        self.assertEqual(self.of([[(3, 3)], [(1, 2)], [(6, 2)]], worth=worth), 19)
        self.assertEqual(self.of([[], [], [(1, 2), (4, 2), (7, 2)]], worth=worth), 18)
        self.assertEqual(self.of([[(0, 3), (6, 3), (3, 3)], [], []], worth=worth), 21)

    def test_first_bad_sale(self):
        some = [([[(7, 3)], [], []], (0, 0)), ([[(0, 3), (2, 3)], [], [None]], (0, 1)), ([[(0, 2)], [], []], (0, 0)),
                ([[], [(1, 3)], []], (1, 0)), ([[(0, 3)], [(4, 2)], []], (1, 0)), ([[], [(0, 2), (0, 2)], []], (1, 1)),
                ([[(0, 3)], [(3, 2), (5, 2)], [(5, 2)]], (2, 0)), ([[(0, 3)], [], [(4, 2), (4, 2), (4, 2)]], (2, 1)),
                ([[], [], [(0, 2), (2, 2), (4, 2), (6, 2), (8, 2)]], (2, 4))]
        for plays, at in some:
            with self.assertRaises(BadSale) as caught:
                self.of(plays)
            self.assertTrue(same(caught.exception.at, at), plays)

    def test_may_not_end(self):
        for many in (1, 2, 3):
            rules = self.rules[-many:]
            with self.assertRaises(BadStep) as caught:
                self.of([[] for _ in range(many)], rules)
            self.assertTrue(same(caught.exception.at, many))
        with self.assertRaises(BadStep) as caught:
            self.of([[(0, 3)], [(3, 2)], [(5, 2)]])
        self.assertEqual(caught.exception.at, 3)
        # What the first rules still offer does not matter, and a play may end where until is refused.
        self.assertEqual(self.of([[], []], [Rule([1]), Rule([3])], stretch=("wall", 2, "wall")), 2)
        self.assertEqual(self.of([[]], [Rule([1, 3])], Worth(free=1, until=3), ("wall", 2, "wall")), 2)
        with self.assertRaises(BadStep):
            self.of([[]], [Rule([1, 3])], Worth(free=1, until=1), ("wall", 2, "wall"))

    def test_any_values(self):
        for thing in any_values():
            for step in range(3):
                plays = [[(3, 3)], [(1, 2)], [(6, 2)]]
                plays[step].insert(0, thing)
                with self.assertRaises(BadSale) as caught:
                    self.of(plays, worth=Worth({2: 1}))
                self.assertTrue(same(caught.exception.at, (step, 0)))
                plays = [[(3, 3)], [(1, 2)], [(6, 2)]]
                plays[step].append(thing)
                with self.assertRaises(BadSale) as caught:
                    self.of(plays)
                self.assertTrue(same(caught.exception.at, (step, 1)))
        for sale in ((False, 3), (0, True), [0, 3], (0, 3, 0), (0,), (0, 0, 3), ("0", 3), (-1, 3), (0, -3)):
            with self.assertRaises(BadSale):
                self.of([[sale], [], []], [Rule([1, 3]), STRICT, STRICT])

    def test_by_all_plays(self):
        chance = random.Random(836)
        seen = []
        for train, parts in some_trains(836, 120):
            prices, free, until = parts
            stretch = (chance.choice(ENDS), chance.randint(0, 8), chance.choice(ENDS))
            state, plays, wrong = (), [], None
            for step, words in enumerate(train):
                plays.append([])
                for _ in range(chance.randint(0, 3)):
                    sales = words_sales_then(words, stretch, state)
                    sale = (chance.randint(0, 8), chance.randint(1, 5))
                    if sales and chance.random() < 0.9:
                        sale = chance.choice(sales)
                    if wrong is None and sale not in sales:
                        wrong = (step, len(plays[step]))
                    plays[step].append(sale)
                    state += (sale,) if sale in sales else ()
            kept = copied(plays)
            rules, worth = [made(words) for words in train], worth_of(parts)
            if wrong is not None:
                seen.append("sale")
                with self.assertRaises(BadSale) as caught:
                    late_total(rules, worth, stretch, plays)
                self.assertTrue(same(caught.exception.at, wrong))
            elif not words_is_end(train[-1], until, stretch, state):
                seen.append("end")
                with self.assertRaises(BadStep) as caught:
                    late_total(rules, worth, stretch, plays)
                self.assertTrue(same(caught.exception.at, len(train)))
            else:
                seen.append("right")
                self.assertTrue(same(late_total(rules, worth, stretch, plays), words_count(prices, free, stretch, state)))
            self.assertTrue(same(plays, kept))
        for kind in ("sale", "end", "right"):
            self.assertGreater(seen.count(kind), 9)

    def test_plays_of_one_rule_are_states(self):
        words = told([2, 3], {"wall": [1]})
        for state in words_states(words, ("wall", 7, "sold")):
            if words_is_end(words, 0, ("wall", 7, "sold"), state):
                found = late_total([made(words)], Worth({2: 3}, 1), ("wall", 7, "sold"), [list(state)])
                seats = sum(part[1] for seat, part in words_free(("wall", 7, "sold"), state))
                self.assertEqual(found, 3 * len([size for seat, size in state if size == 2]) + seats)


class Errors(unittest.TestCase):
    """[83], NoSize(until), which is asked of the last rule alone, and first."""

    def test_no_size(self):
        for rules, until in (([STRICT], 3), ([Rule([3]), STRICT], 3), ([Rule([3, 2]), Rule([3]), STRICT], 3),
                             ([STRICT, STRICT, Rule([5])], 2)):
            worth = Worth({2: 1}, 1, until=until)
            for ask in (lambda: late_table(rules, worth, "wall", "sold", 3),
                        lambda: late_table(rules, worth, "wall", "sold", 0, is_least=True),
                        lambda: late_play(rules, worth, ("wall", 0, "sold")),
                        lambda: late_play(rules, worth, ("wall", 5, "sold"), is_least=True),
                        lambda: late_total(rules, worth, ("wall", 5, "sold"), [[None] for _ in rules])):
                with self.assertRaises(NoSize) as caught:
                    ask()
                self.assertTrue(same(caught.exception.size, until))

    def test_a_size_of_the_last_one_alone(self):
        worth = Worth({2: 1}, 1, until=5)
        self.assertEqual(late_table([STRICT, Rule([3]), Rule([5])], worth, "wall", "wall", 0), [0])
        self.assertEqual(late_total([STRICT, Rule([5])], worth, ("wall", 3, "wall"), [[], []]), 3)


if __name__ == "__main__":
    unittest.main()
