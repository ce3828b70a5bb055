import random
import unittest

from loneseats.errors import NoSale, NoSize, Nothing
from loneseats.halls import Hall
from loneseats.plans import Plan
from loneseats.plays import behind, free_seats, is_whole, sales_behind
from loneseats.rules import Rule
from tests.plain import any_values, made, same, some_rules, words_behind, words_is_stuck, words_sales_behind

ROWS = ([[7]], [[1], [2]], [[5, 3]], [[4, 1, 6], [9]], [[3], [8, 2], [5]], [[12, 12, 12, 12, 12]])
STRICT, PLAN = Rule([2], {"sold": [1]}), Plan([[5, 3]])


def sold_hall():
    """A hall with two sales done and one taken back."""
    hall = Hall(PLAN, STRICT)
    for sale in ((0, 1, 2), (0, 5, 2), (0, 3, 2)):
        hall.sell(*sale)
    hall.back()
    return hall


def told_of(hall):
    """All that a hall tells, without a change."""
    sizes = hall.rule.sizes
    return [hall.plan, hall.rule, hall.log(), len(hall), list(hall), hall.stretches(), hall.sales(), hall.seats(),
            hall.is_whole(), [hall.offers(size) for size in sizes], [hall.refused(size) for size in sizes]]


def what_again(hall):
    """What can be done again, in order, asked of a copy."""
    other, found = hall.copied(), []
    while True:
        try:
            found.append(other.again())
        except Nothing:
            return found


class Examples(unittest.TestCase):
    """[42], the document's example."""

    def test_hall(self):
        hall = Hall(PLAN, STRICT)
        self.assertIsNone(hall.sell(0, 1, 2))
        self.assertEqual(hall.stretches(), [
            (0, 0, ("wall", 1, "sold")), (0, 3, ("sold", 2, "pillar")), (0, 5, ("pillar", 3, "wall"))])
        self.assertEqual(hall.offers(2), [(0, 3), (0, 5), (0, 6)])
        self.assertEqual(behind(STRICT, PLAN, [(0, 1, 2)]), hall.stretches())


class Led(unittest.TestCase):
    """[42], halls that are led by chance, against the definitions and against [41]."""

    def check(self, hall, words, rows, log, taken):
        rule, plan = made(words), Plan(rows)
        free, found = words_behind(rows, log), words_sales_behind(words, rows, log)
        self.assertTrue(same(hall.log(), log))
        self.assertEqual(len(hall), len(log))
        self.assertTrue(same([sale for sale in hall], log))
        self.assertTrue(same(hall.stretches(), free))
        self.assertTrue(same(hall.sales(), found))
        self.assertTrue(same(hall.seats(), sum(stretch[1] for row, seat, stretch in free)))
        self.assertIs(hall.is_whole(), all(words_is_stuck(words, stretch) for row, seat, stretch in free))
        for size in set(words["sizes"]):
            offers = [(row, seat) for row, seat, other in found if other == size]
            self.assertTrue(same(hall.offers(size), offers))
            self.assertIs(hall.refused(size), not offers)
        self.assertEqual(hall.stretches(), behind(rule, plan, log))
        self.assertEqual(hall.sales(), sales_behind(rule, plan, log))
        self.assertEqual(hall.seats(), free_seats(rule, plan, log))
        self.assertIs(hall.is_whole(), is_whole(rule, plan, log))
        self.assertEqual(what_again(hall), list(reversed(taken)))
        self.assertTrue(hall.plan == plan and hall.rule == rule)

    def step(self, hall, words, rows, log, taken, chance):
        """Does something by chance with a hall, and the same with the two lists."""
        found = words_sales_behind(words, rows, log)
        deed = chance.choice(["sell", "sell", "sell", "wrong", "back", "back", "again", "again"])
        if deed == "sell" and found:
            log.append(chance.choice(found))
            taken.clear()
            self.assertIsNone(hall.sell(*log[-1]))
        elif deed == "wrong":
            sale = (chance.randint(0, 3), chance.randint(0, 12), chance.randint(1, 5))
            if sale not in found:
                with self.assertRaises(NoSale) as caught:
                    hall.sell(*sale)
                self.assertTrue(same(caught.exception.sale, sale))
        elif deed == "back" and log:
            taken.append(log.pop())
            self.assertTrue(same(hall.back(), taken[-1]))
        elif deed == "again" and taken:
            log.append(taken.pop())
            self.assertTrue(same(hall.again(), log[-1]))
        elif deed in ("back", "again") and not (log if deed == "back" else taken):
            with self.assertRaises(Nothing):
                hall.back() if deed == "back" else hall.again()

    def test_by_chance(self):
        chance = random.Random(421)
        for words in some_rules(421, 12):
            for rows in ROWS:
                hall, log, taken = Hall(Plan(rows), made(words)), [], []
                self.check(hall, words, rows, log, taken)
                for _ in range(14):
                    self.step(hall, words, rows, log, taken, chance)
                    self.check(hall, words, rows, log, taken)

    def test_to_the_end_and_back(self):
        for words in some_rules(422, 8):
            for rows in ROWS:
                hall, log = Hall(Plan(rows), made(words)), []
                while not hall.is_whole():
                    log.append(hall.sales()[-1])
                    hall.sell(*log[-1])
                self.check(hall, words, rows, log, [])
                for sale in reversed(log):
                    self.assertEqual(hall.back(), sale)
                self.check(hall, words, rows, [], list(reversed(log)))
                for sale in log:
                    self.assertEqual(hall.again(), sale)
                self.check(hall, words, rows, log, [])

    def test_sixty_sales(self):
        hall = Hall(Plan([[60]]), Rule([1], where="side"))
        for seat in range(60):
            hall.sell(0, seat, 1)
        self.assertEqual((len(hall), hall.seats(), hall.stretches(), hall.is_whole()), (60, 0, [], True))
        self.assertEqual(hall.back(), (0, 59, 1))


class Deeds(unittest.TestCase):
    """[42], back, again and what a sale forgets."""

    def test_nothing(self):
        hall = Hall(PLAN, STRICT)
        for deed in (hall.back, hall.again):
            with self.assertRaises(Nothing):
                deed()
        hall.sell(0, 0, 2)
        with self.assertRaises(Nothing):
            hall.again()
        self.assertEqual(hall.log(), [(0, 0, 2)])
        hall.back()
        with self.assertRaises(Nothing):
            hall.back()
        self.assertEqual(hall.again(), (0, 0, 2))

    def test_a_sale_forgets_what_was_taken_back(self):
        hall = sold_hall()
        hall.back()
        self.assertEqual(what_again(hall), [(0, 5, 2), (0, 3, 2)])
        hall.sell(0, 3, 2)
        with self.assertRaises(Nothing):
            hall.again()
        self.assertEqual(hall.log(), [(0, 1, 2), (0, 3, 2)])

    def test_the_same_sale_forgets_too(self):
        hall = sold_hall()
        hall.back()
        hall.sell(0, 5, 2)
        with self.assertRaises(Nothing):
            hall.again()

    def test_back_and_again_keep_their_order(self):
        hall = sold_hall()
        self.assertEqual([hall.back(), hall.back()], [(0, 5, 2), (0, 1, 2)])
        self.assertEqual([hall.again(), hall.again(), hall.again()], [(0, 1, 2), (0, 5, 2), (0, 3, 2)])
        self.assertEqual(hall.log(), [(0, 1, 2), (0, 5, 2), (0, 3, 2)])


class Wrong(unittest.TestCase):
    """[42], NoSale and NoSize."""

    def check_no_sale(self, hall, sale):
        ahead, again = told_of(hall), what_again(hall)
        with self.subTest(sale=repr(sale)[:60]):
            with self.assertRaises(NoSale) as caught:
                hall.sell(*sale)
            self.assertIs(type(caught.exception.sale), tuple)
            self.assertEqual(len(caught.exception.sale), 3)
            for kept, given in zip(caught.exception.sale, sale):
                self.assertIs(kept, given)
            self.assertEqual(told_of(hall), ahead)
            self.assertEqual(what_again(hall), again)

    def test_no_sale_of_any_values(self):
        hall = sold_hall()
        for thing in any_values():
            self.check_no_sale(hall, (thing, thing, thing))
            if not same(thing, 0):
                self.check_no_sale(hall, (thing, 3, 2))
            if not same(thing, 3):
                self.check_no_sale(hall, (0, thing, 2))
            if not same(thing, 2):
                self.check_no_sale(hall, (0, 3, thing))

    def test_no_sale_that_is_not_offered(self):
        hall = sold_hall()
        for sale in ((0, 1, 2), (0, 2, 2), (0, 0, 2), (0, 4, 2), (0, 6, 2), (0, 7, 2), (1, 3, 2), (0, 3, 1), (0, 3, 3),
                     (0, 8, 2), (0, -3, 2), (-1, 3, 2), (False, 3, 2), (0, 3, 5), (0, 3, 0), (0, 10 ** 30, 2)):
            self.check_no_sale(hall, sale)
        hall.sell(0, 3, 2)

    def test_no_size(self):
        hall = sold_hall()
        for thing in any_values():
            if same(thing, 2):
                continue
            for ask in (hall.offers, hall.refused):
                with self.assertRaises(NoSize) as caught:
                    ask(thing)
                self.assertIs(caught.exception.size, thing)


class Kept(unittest.TestCase):
    """[3] and [42]: what halls keep, copies and equality."""

    def test_told_lists_are_new(self):
        hall = sold_hall()
        for ask in (hall.log, hall.stretches, hall.sales, lambda: hall.offers(2)):
            first = ask()
            kept = list(first)
            self.assertTrue(kept)
            first.clear()
            self.assertEqual(ask(), kept)
            ask().append((0, 0, 2))
            self.assertEqual(ask(), kept)
        self.assertEqual((len(hall), hall.seats(), hall.is_whole()), (2, 4, False))

    def test_plan_and_rule_stay(self):
        plan, rule = Plan([[5, 3]]), Rule([2], {"sold": [1]})
        hall = Hall(plan, rule)
        hall.sell(0, 1, 2)
        hall.back()
        self.assertTrue(plan == PLAN and rule == STRICT and hall.plan == PLAN and hall.rule == STRICT)
        self.assertEqual(plan.stretches(), PLAN.stretches())

    def test_a_log_stays_when_the_hall_goes_on(self):
        hall = sold_hall()
        log, stretches = hall.log(), hall.stretches()
        hall.again()
        self.assertEqual(log, [(0, 1, 2), (0, 5, 2)])
        self.assertEqual(stretches, behind(STRICT, PLAN, log))

    def test_copies_go_on_by_themselves(self):
        hall = sold_hall()
        other = hall.copied()
        self.assertIs(type(other), Hall)
        self.assertIsNot(other, hall)
        self.assertEqual(told_of(other), told_of(hall))
        self.assertEqual(what_again(other), [(0, 3, 2)])
        ahead = told_of(hall)
        other.back()
        other.sell(0, 6, 2)
        self.assertEqual(told_of(hall), ahead)
        self.assertEqual(what_again(hall), [(0, 3, 2)])
        ahead = told_of(other)
        hall.again()
        hall.back()
        hall.back()
        self.assertEqual(told_of(other), ahead)
        self.assertEqual(what_again(other), [])

    def test_copies_of_copies(self):
        hall = sold_hall()
        other = hall.copied().copied()
        self.assertEqual(other.again(), (0, 3, 2))
        self.assertEqual(len(hall), 2)
        self.assertEqual(hall.copied().again(), (0, 3, 2))

    def test_equal_by_plan_rule_and_log(self):
        hall = sold_hall()
        other = Hall(Plan([(5, 3)]), Rule((2, 2), {"sold": [1, 1]}))
        self.assertFalse(hall == other)
        other.sell(0, 1, 2)
        other.sell(0, 5, 2)
        self.assertTrue(hall == other)
        self.assertFalse(hall != other)
        other.sell(0, 3, 2)
        self.assertTrue(hall != other)
        other.back()
        other.back()
        self.assertTrue(hall != other)
        self.assertTrue(Hall(PLAN, STRICT) == Hall(PLAN, STRICT))
        self.assertTrue(Hall(PLAN, STRICT) != Hall(PLAN, STRICT.with_soft(True)))
        self.assertTrue(Hall(PLAN, STRICT) != Hall(Plan([[3, 5]]), STRICT))

    def test_equal_by_the_order_of_the_log(self):
        one, other = Hall(PLAN, STRICT), Hall(PLAN, STRICT)
        for sale in ((0, 1, 2), (0, 5, 2)):
            one.sell(*sale)
        for sale in ((0, 5, 2), (0, 1, 2)):
            other.sell(*sale)
        self.assertEqual(one.stretches(), other.stretches())
        self.assertFalse(one == other)
        self.assertTrue(one != other)

    def test_equal_to_nothing_else(self):
        hall = sold_hall()
        for thing in any_values() + [PLAN, STRICT, hall.log(), (PLAN, STRICT, hall.log())]:
            if type(thing).__name__ != "Same":
                self.assertFalse(hall == thing)
                self.assertFalse(thing == hall)
                self.assertTrue(hall != thing)


if __name__ == "__main__":
    unittest.main()
