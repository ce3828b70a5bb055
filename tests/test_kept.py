import importlib
import random
import unittest

from loneseats.book import Book
from loneseats.desk import Desk
from loneseats.halls import Hall
from loneseats.papers import paper, price_lists
from loneseats.guides import guide
from loneseats.plans import Plan
from loneseats.rules import Rule
from loneseats.worths import Worth
from tests.plain import copied, same
from tests.test_form import INTERFACE, METHODS

TRUTHS = ("is_", "are_", "fits", "refuses", "may_end", "never_worse", "alike", "surely_seated", "refused")


def some_calls():
    """For each function of the interface (module, name, arguments, keywords), all made anew."""
    rule, other, worth, plan = Rule([2, 3], {"sold": [1]}), Rule([2]), Worth({2: 3, 3: 5}, 1), Plan([[5, 3], [2]])
    row, small, play = ("wall", 9, "pillar"), ("wall", 7, "wall"), [(1, 2), (3, 3)]
    sales, both, told = [(0, 1, 2), (0, 5, 2)], {3: 1, 2: 2}, (1, 2, 3, [0, 1, 4])
    found = [("kinds", name, ([(0, 1, 2), [3]],), {}) for name in INTERFACE["kinds"]]
    found += [("kinds", "is_sale", ((0, 1, 2),), {}), ("kinds", "are_sizes", ([3, 2, 3],), {})]
    found += [("stretches", "fits", (row, 2, 1), {}), ("stretches", "parts", (row, 2, 1), {}),
              ("stretches", "turned", (row,), {}), ("stretches", "wholes", (4,), {})]
    found += [("choices", name, (rule, row, 2), {}) for name in ("possible", "let", "offered", "refuses")]
    found += [("choices", "is_bad", (rule, row, 2, 1), {}), ("choices", "sales", (rule, row), {}),
              ("choices", "is_sold", (rule, row, (2, 0)), {}), ("choices", "is_stuck", (rule, row), {})]
    found += [("plays", name, (rule, plan, sales), {}) for name in ("behind", "sales_behind", "free_seats", "is_play",
                                                                    "is_whole")]
    found += [("plays", "tally", (sales,), {}), ("worths", "may_end", (rule, worth, row), {})]
    found += [("totals", name, (rule, worth, row), {}) for name in ("greatest", "least", "totals_of", "play_for")]
    found += [("totals", "table", (rule, worth, "wall", "sold", 30), {"is_least": True}),
              ("totals", "left_behind", (rule, row, play), {}), ("totals", "total_of", (rule, worth, row, play + [(6, 3)]), {})]
    found += [("sums", name, (rule, worth, plan), {}) for name in INTERFACE["sums"]]
    found += [("items", name, (rule, worth), {"is_least": True}) for name in ("items", "best_item", "rate")]
    found += [("items", "is_rate", (rule, worth, (3, 5)), {}), ("forms", "form", (rule, worth, "wall", "sold"), {}),
              ("forms", "value", (told, 10 ** 9), {}), ("papers", "price_lists", (rule, worth, 9), {}),
              ("papers", "paper", (rule, worth), {}), ("papers", "is_paper", (rule, worth, paper(rule, worth)), {}),
              ("papers", "are_price_lists", (rule, worth, price_lists(rule, worth, 9)), {}),
              ("guides", "guide", (rule, worth), {}),
              ("guides", "is_guide", (rule, worth, paper(rule, worth), guide(rule, worth)), {})]
    found += [("comes", "comes", (rule, row), {}), ("comes", "is_closed", (rule, [("sold", 1, "sold")]), {}),
              ("comes", "way_to", (rule, row, ("sold", 2, "sold")), {}),
              ("comes", "lengths_of", (rule, "wall", "sold", ("sold", 3, "sold")), {})]
    found += [("lone", "lone_sizes", (rule, ("sold", 3, "sold")), {}), ("lone", "lone_play", (rule, row, 2), {}),
              ("lone", "is_never_lone", (rule, row, 2, [row]), {}),
              ("lone", "lone_lengths", (rule, "wall", "sold", 2), {}), ("lone", "hall_refusal", (other, plan, 2), {}),
              ("lone", "hall_refusal", (rule, Plan([[9]]), 2), {})]
    found += [("sure", name, (rule, row), {"until": 2}) for name in ("sure", "sure_seats")]
    found += [("sure", "sure_in", (rule, plan), {}), ("sure", "least_length", (rule, "wall", "sold", 3), {}),
              ("sure", "always_from", (rule, "wall", "sold", 3), {})]
    found += [("compared", name, (rule, other, worth, "wall", "sold"), {}) for name in INTERFACE["compared"]
              if name != "never_worse"]
    found += [("compared", "never_worse", (rule, other, Worth({2: 3}, 1)), {}), ("alikes", "alike", (rule, other), {}),
              ("alikes", "parting", (rule, rule.with_soft(True)), {}),
              ("alikes", "is_parting", (rule, other, (small, [(0, 2), (5, 2)], 2, ("sold", 3, "sold"))), {})]
    found += [("shapes", "shape", ([3, 2, 3], 2), {}), ("shapes", "ranked", ([rule, other, rule], worth), {})]
    found += [("late", "late_table", ([rule, other], worth, "wall", "sold", 20), {}),
              ("late", "late_play", ([rule, other, rule], worth, row), {"is_least": True}),
              ("late", "late_total", ([rule, other], worth, row, [[(0, 3)], [(3, 2), (5, 2), (7, 2)]]), {})]
    found += [("counts", name, (rule, plan, both), {}) for name in ("surely_seated", "aways", "first_refusal", "good_order")]
    found += [("counts", "is_script", (rule, plan, both, [("sell", 0, 0, 2), ("away", 3)]), {}),
              ("counts", "script_with", (rule, plan, both, 0), {}), ("counts", "aways_in_order", (rule, plan, [3, 2]), {}),
              ("counts", "good_order", (other, Plan([[6], [2]]), {2: 2}), {})]
    found += [("returns", "steps_at", (rule, 7, ((0, 2),)), {}), ("returns", "states", (rule, 6), {"returned": False}),
              ("returns", "state_behind", (rule, 7, [("sell", 0, 2), ("sell", 2, 3), ("back", 0)]), {}),
              ("returns", "script_to", (rule, 7, ((0, 2), (2, 3))), {}), ("returns", "most_free", (rule, 6), {}),
              ("returns", "breaks", (Rule([2, 3], where="side"),), {}), ("returns", "lone_script", (rule, 7, 3), {})]
    found += [("notation", "show_stretch", (row,), {}), ("notation", "show_rule", (rule,), {}),
              ("notation", "show_worth", (worth,), {}), ("notation", "show_plan", (plan,), {}),
              ("notation", "show_sale", ((0, 1, 2),), {}), ("notation", "show_play", (sales,), {}),
              ("notation", "show_form", (told,), {}), ("notation", "show_picture", (plan, sales), {})]
    found += [("readers", "read_stretch", ("wall.7.sold",), {}), ("readers", "read_plan", ("5,3\n2\n",), {}),
              ("readers", "read_rule", ("sizes 2 pillar - sold 1 wall - strict any 0",), {}),
              ("readers", "read_worth", ("prices 2:3 free 1 until 0",), {}), ("readers", "read_play", ("0.1.2 0.5.2",), {}),
              ("readers", "read_form", ("start 0 period 2 rise 3 values 0,1",), {})]
    return found


def some_objects():
    """Objects of the classes, each with calls of its methods that return what may be changed; all made anew."""
    rule, worth, plan = Rule([2, 3], {"sold": [1]}), Worth({2: 3, 3: 5}, 1), Plan([[5, 3], [2]])
    hall, book = Hall(plan, rule), Book(rule, worth)
    hall.sell(0, 1, 2)
    hall.sell(0, 5, 3)
    hall.back()
    book.do(("sizes", [3, 2]))
    return [(rule, [("bad_at", ("sold",)), ("greatest_bad", ()), ("span", ()), ("with_bad", ("wall", [2, 1])),
                    ("with_sizes", ([3, 1],)), ("with_soft", (True,)), ("with_where", ("side",)), ("with_offer", (2,)),
                    ("bare", ())]),
            (worth, [("prices", ()), ("price", (2,)), ("total", ({2: 2, 3: 0}, 4))]),
            (plan, [("rows", ()), ("stretches", ())]),
            (hall, [("log", ()), ("stretches", ()), ("sales", ()), ("seats", ()), ("is_whole", ()), ("offers", (2,)),
                    ("refused", (3,)), ("copied", ())]),
            (book, [("log", ()), ("copied", ())]),
            (Desk(rule, worth, plan), [("execute", ("stretches",)), ("hall", ())])]


def holders(thing):
    """All lists and dicts in a value, each as often as it stands there."""
    found = [thing] if isinstance(thing, (list, dict)) else []
    if isinstance(thing, (list, tuple)):
        found += [other for part in thing for other in holders(part)]
    if isinstance(thing, dict):
        found += [other for part in thing.values() for other in holders(part)]
    return found


def spoil(thing):
    """Empties all lists and dicts in a value."""
    for holder in holders(thing):
        holder.clear()


class Kept(unittest.TestCase):
    """[3]: nothing that is passed is changed, and what is returned is new and the same each time."""

    def check(self, call, args, given, name):
        kept = copied((args, given))
        first = call(*args, **given)
        self.assertTrue(same((args, given), kept))
        told = copied(first)
        found = [id(holder) for holder in holders(first)]
        self.assertEqual(len(set(found)), len(found))
        self.assertFalse(set(found) & {id(holder) for holder in holders(args)})
        spoil(first)
        self.assertTrue(same((args, given), kept))
        again = call(*args, **given)
        self.assertTrue(same(again, told))
        if name.startswith(TRUTHS):
            self.assertIs(type(again), bool)
        return told

    def test_all_functions(self):
        calls = some_calls()
        answers = []
        for module, name, args, given in calls:
            with self.subTest(module=module, name=name):
                call = getattr(importlib.import_module("loneseats." + module), name)
                answers.append(self.check(call, args, given, name))
        order = list(range(len(calls)))
        random.Random(31).shuffle(order)
        for at in order:
            module, name, args, given = some_calls()[at]
            call = getattr(importlib.import_module("loneseats." + module), name)
            self.assertTrue(same(call(*args, **given), answers[at]), name)

    def test_all_methods(self):
        for thing, calls in some_objects():
            for name, args in calls:
                with self.subTest(kind=type(thing).__name__, name=name):
                    self.check(getattr(thing, name), args, {}, name)

    def test_none_is_left_out(self):
        asked = {(module, name) for module, name, args, given in some_calls()}
        listed = {(module, name) for module, names in INTERFACE.items() for name in names
                  if module != "errors" and not name[0].isupper()}
        self.assertEqual(asked, listed)
        asked = {(type(thing).__name__, name) for thing, calls in some_objects() for name, args in calls}
        changing = {"sell", "back", "again", "do"}
        listed = {(kind, name) for (module, kind), names in METHODS.items() for name in names
                  if not name.startswith("__") and name not in changing}
        self.assertEqual(asked, listed)

    def test_what_loops_give(self):
        for thing, calls in some_objects():
            if hasattr(thing, "__iter__"):
                first = [part for part in thing]
                self.assertTrue(first and all(isinstance(part, tuple) for part in first))
                self.assertEqual([part for part in thing], first)

    def test_objects_copy_what_they_are_given(self):
        sizes, bad, prices, rows = [3, 2], {"sold": [1], "wall": [2]}, {2: 3}, [[5, 3], [2]]
        rule, worth, plan = Rule(sizes, bad), Worth(prices, 1), Plan(rows)
        bad["sold"].append(5)
        spoil([sizes, bad, prices, rows])
        self.assertTrue(rule == Rule([2, 3], {"sold": [1], "wall": [2]}))
        self.assertTrue(worth == Worth({2: 3}, 1) and plan == Plan([[5, 3], [2]]))
        lengths = [4]
        other = rule.with_bad("pillar", lengths)
        lengths.append(5)
        self.assertEqual(other.bad_at("pillar"), [4])

    def test_keys_of_dicts_ascend(self):
        for module, name, args, given in some_calls():
            call = getattr(importlib.import_module("loneseats." + module), name)
            for holder in holders(call(*args, **given)):
                if isinstance(holder, dict):
                    self.assertEqual(list(holder), sorted(holder))
        self.assertEqual(list(Worth({5: 1, 1: 2, 3: 3}).prices()), [1, 3, 5])

    def test_the_order_of_keys_that_are_passed_means_nothing(self):
        one, other = Rule([2], {"wall": [1], "sold": [2]}), Rule([2], {"sold": [2], "wall": [1]})
        self.assertTrue(one == other and Worth({3: 1, 2: 2}) == Worth({2: 2, 3: 1}))
        self.assertEqual(Worth({2: 2, 3: 1}).total({3: 1, 2: 4}, 0), Worth({2: 2, 3: 1}).total({2: 4, 3: 1}, 0))


if __name__ == "__main__":
    unittest.main()
