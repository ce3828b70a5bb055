import unittest

from loneseats.errors import LoneError, NoEnd, Wrong
from loneseats.rules import Rule
from tests.plain import ENDS, any_values, made, nested, same, some_rules, words_span

FULL = {"sizes": [3, 2], "bad": {"wall": [2, 1], "sold": (1,)}, "soft": True, "where": "side", "offer": 2}


def full(**other):
    """The Rule of FULL, with other arguments."""
    told = {**FULL, **other}
    return Rule(told["sizes"], told["bad"], soft=told["soft"], where=told["where"], offer=told["offer"])


def facts(rule):
    """All that a Rule tells."""
    return (rule.sizes, [rule.bad_at(end) for end in ENDS], rule.soft, rule.where, rule.offer, rule.greatest_bad(),
            rule.span())


class Told(unittest.TestCase):
    """[30], what a Rule tells."""

    def test_all_words(self):
        rule = full()
        self.assertTrue(same(facts(rule), ((2, 3), [[], [1], [1, 2]], True, "side", 2, 2, 9)))

    def test_without_words(self):
        self.assertTrue(same(facts(Rule([2])), ((2,), [[], [], []], False, "any", 0, 0, 3)))
        self.assertTrue(same(facts(Rule((5,), None)), ((5,), [[], [], []], False, "any", 0, 0, 6)))
        self.assertTrue(same(facts(Rule([1], {})), ((1,), [[], [], []], False, "any", 0, 0, 2)))

    def test_bad_by_keyword(self):
        self.assertEqual(Rule(sizes=[2], bad={"sold": [1]}), Rule([2], {"sold": [1]}))

    def test_any_order_and_twice(self):
        rule = Rule((5, 1, 5, 3, 1), {"wall": [5, 2, 2, 1], "pillar": (4, 4), "sold": []})
        self.assertTrue(same(facts(rule), ((1, 3, 5), [[4], [], [1, 2, 5]], False, "any", 0, 5, 11)))

    def test_the_document_s_span(self):
        self.assertEqual(Rule([2], {"sold": [1]}).span(), 4)
        for words in some_rules(30, 60):
            self.assertEqual(made(words).span(), words_span(words))
            worst = max([0] + [length for end in ENDS for length in words["bad"][end]])
            self.assertEqual(made(words).greatest_bad(), worst)

    def test_greatest_bad_of_each_end(self):
        for end in ENDS:
            self.assertEqual(Rule([1], {end: [3]}).greatest_bad(), 3)

    def test_bounds(self):
        rule = Rule([1, 2, 3, 4, 5], {end: [1, 2, 3, 4, 5] for end in ENDS}, offer=5)
        self.assertEqual((rule.span(), rule.greatest_bad()), (20, 5))

    def test_what_was_handed_in_is_copied(self):
        sizes, bad = [2, 3], {"sold": [1], "wall": [2]}
        rule = Rule(sizes, bad)
        sizes.append(5)
        bad["sold"].append(4)
        bad["pillar"] = [3]
        self.assertEqual(facts(rule)[:2], ((2, 3), [[], [1], [2]]))

    def test_what_was_handed_in_stays(self):
        sizes, bad = [3, 2, 3], {"wall": [2, 1, 2], "sold": (1,)}
        Rule(sizes, bad).with_bad("sold", sizes)
        self.assertTrue(same([sizes, bad], [[3, 2, 3], {"wall": [2, 1, 2], "sold": (1,)}]))

    def test_what_is_returned_is_new(self):
        rule = full()
        rule.bad_at("wall").append(5)
        self.assertEqual(rule.bad_at("wall"), [1, 2])
        self.assertIsNot(rule.bad_at("sold"), rule.bad_at("sold"))

    def test_properties_are_not_assigned(self):
        for name in ("sizes", "soft", "where", "offer"):
            with self.assertRaises(AttributeError):
                setattr(full(), name, getattr(full(), name))

    def test_no_end(self):
        for thing in any_values():
            if isinstance(thing, str) and thing in ENDS:
                continue
            with self.assertRaises(NoEnd) as caught:
                full().bad_at(thing)
            self.assertIs(caught.exception.end, thing)


class WrongPlaces(unittest.TestCase):
    """[30] and [4], the errors of Rule."""

    bent = {
        "sizes": [[], (), [0], [6], [2, True], [False], ["2"], [[2]], 2, None, "2", {2: 2}, {2}, range(1, 3),
                  nested(30), [2] * 9999 + [None]],
        "bad": [[], (), 1, True, False, "", "sold", {"side": [1]}, {1: [1]}, {None: []}, {"sold": None}, {"sold": 1},
                {"sold": "1"}, {"sold": {1: 1}}, {"sold": [0]}, {"wall": [6]}, {"wall": [True]}, {"wall": [[1]]},
                {"wall": [1], "Sold": [1]}, {("wall",): [1]}, [("wall", [1])]],
        "soft": [0, 1, None, "soft", "", [], [True], 2],
        "where": ["", "Any", "sides", "any ", None, True, False, 0, 1, ["any"], ("side",), {"any": 1}, b"any"],
        "offer": [-1, 6, True, False, None, "0", [0], 10 ** 40],
    }

    def test_each_place(self):
        for place, name in enumerate(FULL):
            for thing in self.bent[name]:
                with self.subTest(name=name, thing=repr(thing)[:60]):
                    with self.assertRaises(Wrong) as caught:
                        full(**{name: thing})
                    self.assertEqual(caught.exception.place, place)

    def test_the_first_of_several(self):
        for place, name in enumerate(FULL):
            wrong = {other: self.bent[other][0] for other in list(FULL)[place:]}
            with self.assertRaises(Wrong) as caught:
                full(**wrong)
            self.assertEqual(caught.exception.place, place)

    def test_any_values(self):
        for place, name in enumerate(FULL):
            for thing in any_values() + [Rule([1]), [Rule([1])]]:
                try:
                    full(**{name: thing})
                except LoneError as error:
                    self.assertIs(type(error), Wrong)
                    self.assertEqual(error.place, place)

    def test_right_at_the_bounds(self):
        for told in ({"sizes": [1]}, {"sizes": (5,)}, {"sizes": [5] * 9999}, {"bad": None}, {"bad": {}},
                     {"bad": {"sold": ()}}, {"bad": {end: [1, 5] for end in ENDS}}, {"offer": 0}, {"offer": 5}):
            self.assertIs(type(full(**told)), Rule)


class Others(unittest.TestCase):
    """[30], the Rules that are made of a Rule."""

    def test_with_one_other_word(self):
        rule = full()
        kept = facts(rule)
        self.assertEqual(rule.with_bad("wall", (4, 3, 4)), full(bad={"wall": [3, 4], "sold": [1]}))
        self.assertEqual(rule.with_bad("pillar", [5]), full(bad={"wall": [1, 2], "sold": [1], "pillar": [5]}))
        self.assertEqual(rule.with_bad("sold", []), full(bad={"wall": [1, 2]}))
        self.assertEqual(rule.with_sizes((4, 1, 4)), full(sizes=[1, 4]))
        self.assertEqual(rule.with_soft(False), full(soft=False))
        self.assertEqual(rule.with_where("any"), full(where="any"))
        self.assertEqual(rule.with_offer(5), full(offer=5))
        self.assertEqual(rule.bare(), full(bad=None))
        self.assertTrue(same(facts(rule), kept))

    def test_with_its_own_word(self):
        rule = full()
        for other in (rule.with_bad("wall", [1, 2]), rule.with_sizes([2, 3]), rule.with_soft(True),
                      rule.with_where("side"), rule.with_offer(2)):
            self.assertEqual(other, rule)
            self.assertIsNot(other, rule)

    def test_what_was_handed_in_is_copied(self):
        lengths, sizes = [1], [2]
        one, other = full().with_bad("wall", lengths), full().with_sizes(sizes)
        lengths.append(5)
        sizes.append(5)
        self.assertEqual((one.bad_at("wall"), other.sizes), ([1], (2,)))

    def test_errors(self):
        rule = full()
        kept = facts(rule)
        for thing in any_values() + [Rule([2])]:
            if not (isinstance(thing, str) and thing in ENDS):
                for lengths in ([1], None, thing):
                    with self.assertRaises(NoEnd) as caught:
                        rule.with_bad(thing, lengths)
                    self.assertIs(caught.exception.end, thing)
            is_list = isinstance(thing, (list, tuple))
            are_sizes = is_list and all(type(size) is int and 1 <= size <= 5 for size in thing)
            self.check(are_sizes, 1, lambda: rule.with_bad("sold", thing))
            self.check(are_sizes and len(thing) > 0, 0, lambda: rule.with_sizes(thing))
            self.check(type(thing) is bool, 0, lambda: rule.with_soft(thing))
            self.check(isinstance(thing, str) and thing in ("any", "side"), 0, lambda: rule.with_where(thing))
            self.check(type(thing) is int and 0 <= thing <= 5, 0, lambda: rule.with_offer(thing))
        self.assertTrue(same(facts(rule), kept))

    def check(self, is_right, place, call):
        try:
            made_now = call()
        except LoneError as error:
            self.assertIs(type(error), Wrong)
            self.assertEqual((error.place, is_right), (place, False))
        else:
            self.assertIs(type(made_now), Rule)
            self.assertTrue(is_right)

    def test_lengths_at_the_bounds(self):
        for lengths in ([0], [6], [True], None, "1", {1: 1}):
            with self.assertRaises(Wrong) as caught:
                full().with_bad("sold", lengths)
            self.assertEqual(caught.exception.place, 1)
        for lengths in ([], (), [1], [5], (5, 5)):
            self.assertEqual(full().with_bad("sold", lengths).bad_at("sold"), sorted(set(lengths)))


class Equal(unittest.TestCase):
    """[30], when two Rules are equal."""

    def test_each_word_counts(self):
        rules = [full(), full(sizes=[2]), full(bad=None), full(bad={"wall": [1, 2]}),
                 full(bad={"wall": [1, 2], "pillar": [1]}), full(bad={"wall": [1], "sold": [1]}), full(soft=False),
                 full(where="any"), full(offer=1)]
        for at, one in enumerate(rules):
            for there, other in enumerate(rules):
                self.assertIs(one == other, at == there)
                self.assertIs(one != other, at != there)

    def test_order_and_twice_do_not_count(self):
        one = Rule([3, 2, 2], {"sold": (2, 1), "wall": []})
        other = Rule((2, 3), {"sold": [1, 1, 2]})
        self.assertIs(one == other, True)
        self.assertIs(one != other, False)

    def test_nothing_else(self):
        for thing in any_values() + [FULL, facts(full())]:
            self.assertIs(full() == thing, False)
            self.assertIs(full() != thing, True)


if __name__ == "__main__":
    unittest.main()
