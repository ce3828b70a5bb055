import itertools
import random
import unittest

from loneseats.desk import Desk
from loneseats.errors import LoneError, NoCommand, NoSale, NoSize, Nothing, Wrong
from loneseats.forms import form
from loneseats.halls import Hall
from loneseats.notation import show_form, show_picture, show_plan, show_play, show_rule, show_worth
from loneseats.plans import Plan
from loneseats.rules import Rule
from loneseats.totals import greatest, least
from loneseats.worths import Worth
from tests.plain import (ENDS, PAIRS, any_values, made, same, some_cases, words_behind, words_may_end,
                         words_plan_states, words_sales_behind, worth_of)

STRICT, EMPTY, PLAN = Rule([2], {"sold": [1]}), Worth(free=1), Plan([[5, 3]])
ASKED = ("play", "picture", "free", "whole", "stretches", "total", "greatest", "least", "rule", "worth", "plan")


def sold_desk(worth=EMPTY):
    """A desk with two sales done and one taken back."""
    desk = Desk(STRICT, worth, PLAN)
    for line in ("sell 0 1 2", "sell 0 5 2", "sell 0 3 2", "back"):
        desk.execute(line)
    return desk


def what_again(desk):
    """What can be done again, in order, asked of a copy of the hall."""
    hall, found = desk.hall(), []
    while True:
        try:
            found.append(hall.again())
        except Nothing:
            return found


class Examples(unittest.TestCase):
    """[104], the document's example."""

    def test_example(self):
        desk = Desk(STRICT, EMPTY, Plan([[5, 3]]))
        lines = ("sell 0 1 2", "picture", "stretches", "greatest")
        self.assertTrue(same([desk.execute(line) for line in lines],
                             ["ok", "|.22..:...|\n", "0.0.wall.1.sold 0.3.sold.2.pillar 0.5.pillar.3.wall", "2"]))


class Lines(unittest.TestCase):
    """[104], each line."""

    def test_one_day(self):
        desk = Desk(STRICT, Worth({2: 5}, 1), PLAN)
        for line, answer in (
                ("play", "-"), ("picture", "|.....:...|\n"), ("free", "8"), ("whole", "no"), ("total", "8"),
                ("stretches", "0.0.wall.5.pillar 0.5.pillar.3.wall"), ("offers 2", "0.0 0.1 0.2 0.3 0.5 0.6"),
                ("refused 2", "no"), ("sell 0 1 2", "ok"), ("sell 0 5 2", "ok"), ("play", "0.1.2 0.5.2"), ("total", "14"),
                ("stretches", "0.0.wall.1.sold 0.3.sold.2.pillar 0.7.sold.1.wall"), ("free", "4"), ("offers 2", "0.3"),
                ("back", "0.5.2"), ("play", "0.1.2"), ("again", "0.5.2"), ("back", "0.5.2"), ("back", "0.1.2"),
                ("play", "-"), ("again", "0.1.2"), ("again", "0.5.2"), ("sell 0 3 2", "ok"), ("whole", "yes"),
                ("picture", "|.2222:22.|\n"), ("offers 2", "-"), ("refused 2", "yes"), ("free", "2"), ("total", "17"),
                ("greatest", "17"), ("least", "17"), ("stretches", "0.0.wall.1.sold 0.7.sold.1.wall"),
                ("rule", "sizes 2 pillar - sold 1 wall - strict any 0"), ("worth", "prices 2:5 free 1 until 0"),
                ("plan", "5,3\n"), ("stretch wall.7.wall", "16 13"), ("stretch sold.0.pillar", "0 0"),
                ("form sold sold", show_form(form(STRICT, Worth({2: 5}, 1), "sold", "sold")))):
            self.assertTrue(same(desk.execute(line), answer), (line, answer))

    def test_full_halls(self):
        desk = Desk(Rule([2]), EMPTY, Plan([[2], [2]]))
        desk.execute("sell 1 0 2")
        desk.execute("sell 0 0 2")
        for line, answer in (("stretches", "-"), ("free", "0"), ("picture", "|22|\n|22|\n"), ("whole", "yes"),
                             ("total", "0"), ("greatest", "0"), ("least", "0"), ("play", "1.0.2 0.0.2")):
            self.assertEqual(desk.execute(line), answer)

    def check(self, desk, hall, worth):
        rule, plan = hall.rule, hall.plan
        stretches = ["{}.{}.{}.{}.{}".format(row, seat, *part) for row, seat, part in hall.stretches()]
        sold = sum(worth.price(size) for row, seat, size in hall.log())
        parts = [part for row, seat, part in hall.stretches()]
        right = {"play": show_play(hall.log()), "picture": show_picture(plan, hall.log()), "free": str(hall.seats()),
                 "whole": "yes" if hall.is_whole() else "no", "stretches": " ".join(stretches) or "-",
                 "total": str(sold + worth.free * hall.seats()), "rule": show_rule(rule), "worth": show_worth(worth),
                 "plan": show_plan(plan), "greatest": str(sold + sum(greatest(rule, worth, part) for part in parts)),
                 "least": str(sold + sum(least(rule, worth, part) for part in parts))}
        for size in rule.sizes:
            offers = [f"{row}.{seat}" for row, seat in hall.offers(size)]
            right[f"offers {size}"] = " ".join(offers) if offers else "-"
            right[f"refused {size}"] = "no" if offers else "yes"
        for line, answer in right.items():
            self.assertTrue(same(desk.execute(line), answer), line)
        self.assertTrue(desk.hall() == hall)

    def test_beside_a_hall(self):
        chance = random.Random(1041)
        for words, parts in some_cases(1041, 30):
            rows = chance.choice([[[7]], [[4, 1, 6], [9]], [[3], [8, 2], [5]], [[1, 1, 2], [2]]])
            rule, worth, plan = made(words), worth_of(parts), Plan(rows)
            desk, hall = Desk(rule, worth, plan), Hall(plan, rule)
            for _ in range(10):
                sales, deed = hall.sales(), chance.choice(["sell", "sell", "back", "again"])
                if deed == "sell" and sales:
                    sale = chance.choice(sales)
                    hall.sell(*sale)
                    self.assertEqual(desk.execute("sell {} {} {}".format(*sale)), "ok")
                elif deed == "back" and len(hall):
                    self.assertEqual(desk.execute("back"), "{}.{}.{}".format(*hall.back()))
                elif deed == "again" and what_again(desk):
                    self.assertEqual(desk.execute("again"), "{}.{}.{}".format(*hall.again()))
                elif deed != "sell":
                    self.assertRaises(Nothing, desk.execute, deed)
                self.check(desk, hall, worth)

    def test_greatest_and_least_of_all_plays_that_go_on(self):
        chance = random.Random(1042)
        for words, parts in some_cases(1042, 24):
            prices, free, until = parts
            rows = chance.choice([[[6]], [[3, 3]], [[2, 4], [1]], [[2], [4]]])
            desk, log = Desk(made(words), worth_of(parts), Plan(rows)), []
            while True:
                ends = [state for state in words_plan_states(words, rows, tuple(log))
                        if all(words_may_end(words, until, part) for row, seat, part in words_behind(rows, state))]
                totals = [sum(prices.get(size, 0) for row, seat, size in state)
                          + free * sum(part[1] for row, seat, part in words_behind(rows, state)) for state in ends]
                self.assertEqual([desk.execute("greatest"), desk.execute("least")], [str(max(totals)), str(min(totals))])
                sales = words_sales_behind(words, rows, log)
                if not sales:
                    self.assertEqual(desk.execute("whole"), "yes")
                    break
                log.append(chance.choice(sales))
                desk.execute("sell {} {} {}".format(*log[-1]))

    def test_stretches_and_forms(self):
        for words, parts in some_cases(1043, 12):
            rule, worth = made(words), worth_of(parts)
            desk = Desk(rule, worth, Plan([[4]]))
            for left, right in PAIRS:
                self.assertEqual(desk.execute(f"form {left} {right}"), show_form(form(rule, worth, left, right)))
                for length in (0, 1, 7, 119, 120):
                    stretch = (left, length, right)
                    self.assertEqual(desk.execute(f"stretch {left}.{length}.{right}"),
                                     f"{greatest(rule, worth, stretch)} {least(rule, worth, stretch)}")


class NoLines(unittest.TestCase):
    """[104], NoCommand()."""

    def refused(self, line):
        desk = sold_desk()
        with self.assertRaises(NoCommand, msg=line):
            desk.execute(line)
        self.assertEqual(desk.execute("play"), "0.1.2 0.5.2")
        self.assertEqual(what_again(desk), [(0, 3, 2)])

    def test_other_words(self):
        for line in ("", " ", "Play", "plays", "pla", "sold", "undo", "hall", "prices", "until", "sales", "seats", "copied",
                     "-", "0.1.2", "size 2", "2", "sell", "offers", "refused", "stretch", "form", "play\n", "\nplay",
                     "play\nplay", "log", "ok", "offer 2", "refuses 2", "total 2", "wall", "greatest wall.7.wall"):
            self.refused(line)

    def test_blanks_and_words_too_many(self):
        for line in ASKED + ("back", "again", "sell 0 3 2", "offers 2", "refused 2", "stretch wall.7.wall",
                             "form wall wall"):
            for other in (" " + line, line + " ", line + " 2", line + " -", line + " " + line, line + "\n", line + "\t",
                          line.replace(" ", "  "), line.replace(" ", "\n"), line.upper(), line[:-1], line[1:]):
                if other != line and not other.startswith("form wall wal") or other.endswith(" "):
                    self.refused(other)
        self.refused("form wall wal")

    def test_sizes(self):
        for word in ("0", "6", "01", "-1", "+2", "2.0", "", "x", "two", "10", "9" * 41, "2,", "-"):
            for line in (f"offers {word}", f"refused {word}", f"sell 0 3 {word}"):
                self.refused(line)

    def test_rows_and_seats(self):
        for word in ("", "-1", "+1", "00", "03", "x", "0.3", "1" * 41, "-", "1,2"):
            self.refused(f"sell {word} 3 2")
            self.refused(f"sell 0 {word} 2")
        for line in ("sell 0 3", "sell 0 3 2 2", "sell 0.3.2", "sell 0,3,2", "sell 0 3 2 ok"):
            self.refused(line)

    def test_stretches(self):
        for word in ("wall.121.wall", "wall.400.wall", "wall." + "9" * 40 + ".wall", "wall.07.wall", "wall.7", "7", "wall",
                     "wall.7.wall\n", "Wall.7.wall", "wall.-1.wall", "wall.7.wall.wall", "wall,7,wall", "wall..wall", "-",
                     "wall.7.", ".7.wall", "wall 7 wall", "wall.1" + "0" * 40 + ".wall"):
            self.refused(f"stretch {word}")
        for word in ("wall.120.wall", "sold.0.pillar"):
            self.assertIsNotNone(sold_desk().execute(f"stretch {word}"))

    def test_forms(self):
        for left, right in itertools.product(ENDS + ("", "Wall", "0", "-", "wall.wall", "walls"), repeat=2):
            if not (left in ENDS and right in ENDS):
                self.refused(f"form {left} {right}")
        for line in ("form wall", "form wall.wall", "form wall wall wall", "form wall 7 wall", "form"):
            self.refused(line)

    def test_any_values(self):
        for thing in any_values():
            self.refused(thing)
            self.refused([thing])
        for line in (b"play", ["play"], ("sell", 0, 1, 2), {"play": 1}, {"play"}):
            self.refused(line)


class Errors(unittest.TestCase):
    """[104], what the Hall raises, NoSize(until), and that nothing has changed then."""

    def raised(self, line, kind, field=None, value=None, desk=None):
        desk = desk or sold_desk()
        log, again = desk.hall().log(), what_again(desk)
        with self.assertRaises(LoneError, msg=line) as caught:
            desk.execute(line)
        self.assertIs(type(caught.exception), kind, line)
        if field:
            self.assertTrue(same(getattr(caught.exception, field), value))
        self.assertEqual(desk.hall().log(), log)
        self.assertEqual(what_again(desk), again)

    def test_no_sale(self):
        for sale in ((0, 1, 2), (0, 0, 1), (0, 4, 2), (1, 0, 2), (0, 3, 3), (10 ** 39, 0, 5), (0, 10 ** 39, 2)):
            self.raised("sell {} {} {}".format(*sale), NoSale, "sale", sale)

    def test_nothing(self):
        self.raised("back", Nothing, desk=Desk(STRICT, EMPTY, PLAN))
        self.raised("again", Nothing, desk=Desk(STRICT, EMPTY, PLAN))
        desk = sold_desk()
        desk.execute("sell 0 3 2")
        self.raised("again", Nothing, desk=desk)
        desk = sold_desk()
        desk.execute("back")
        desk.execute("back")
        self.raised("back", Nothing, desk=desk)
        self.assertEqual(what_again(desk), [(0, 1, 2), (0, 5, 2), (0, 3, 2)])

    def test_no_size(self):
        for size in (1, 3, 4, 5):
            self.raised(f"offers {size}", NoSize, "size", size)
            self.raised(f"refused {size}", NoSize, "size", size)

    def test_until_that_is_no_size(self):
        for until in (1, 3, 5):
            worth = Worth({2: 5}, 1, until=until)
            for line in ("greatest", "least", "stretch wall.7.wall", "stretch wall.0.wall", "form wall sold"):
                self.raised(line, NoSize, "size", until, desk=sold_desk(worth))
            for line in ("stretch wall.121.wall", "form wall", "greatest 2", "form wall end"):
                self.raised(line, NoCommand, desk=sold_desk(worth))
            desk = sold_desk(worth)
            self.assertEqual([desk.execute(line) for line in ("total", "worth", "free", "again", "whole")],
                             ["14", f"prices 2:5 free 1 until {until}", "4", "0.3.2", "yes"])

    def test_until_that_is_no_size_where_nothing_is_free(self):
        desk = Desk(Rule([2]), Worth(until=3), Plan([[2]]))
        desk.execute("sell 0 0 2")
        for line in ("greatest", "least"):
            self.raised(line, NoSize, "size", 3, desk=desk)

    def test_until_that_is_a_size(self):
        desk = Desk(Rule([1, 3]), Worth({1: 2}, 1, until=3), Plan([[4]]))
        self.assertEqual([desk.execute(line) for line in ("greatest", "least", "stretch wall.4.wall")], ["8", "1", "8 1"])

    def test_wrong(self):
        for thing in any_values() + [Hall(PLAN, STRICT)]:
            for args, place in (((thing, EMPTY, PLAN), 0), ((STRICT, thing, PLAN), 1), ((STRICT, EMPTY, thing), 2),
                                ((thing, thing, thing), 0), ((STRICT, thing, thing), 1), ((PLAN, EMPTY, STRICT), 0),
                                ((STRICT, PLAN, PLAN), 1), ((STRICT, EMPTY, STRICT), 2)):
                with self.assertRaises(Wrong) as caught:
                    Desk(*args)
                self.assertTrue(same(caught.exception.place, place))


class Halls(unittest.TestCase):
    """[104], hall()."""

    def test_it_goes_on_by_itself(self):
        desk = sold_desk()
        hall = desk.hall()
        self.assertTrue(type(hall) is Hall and hall.plan == PLAN and hall.rule == STRICT)
        self.assertEqual(hall.log(), [(0, 1, 2), (0, 5, 2)])
        self.assertEqual(hall.again(), (0, 3, 2))
        self.assertEqual(desk.execute("play"), "0.1.2 0.5.2")
        self.assertEqual(desk.execute("again"), "0.3.2")
        hall.back()
        hall.back()
        self.assertEqual(desk.execute("play"), "0.1.2 0.5.2 0.3.2")
        desk.execute("back")
        desk.execute("back")
        desk.execute("back")
        self.assertEqual(hall.log(), [(0, 1, 2)])
        self.assertEqual(desk.hall().log(), [])

    def test_two_desks(self):
        one, other = Desk(STRICT, EMPTY, PLAN), Desk(STRICT, EMPTY, PLAN)
        one.execute("sell 0 1 2")
        self.assertEqual([one.execute("free"), other.execute("free")], ["6", "8"])


if __name__ == "__main__":
    unittest.main()
