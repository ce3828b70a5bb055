import unittest

from loneseats.choices import is_bad, is_sold, is_stuck, let, offered, possible, refuses, sales
from loneseats.errors import LoneError, NoChoice, NoSize
from loneseats.rules import Rule
from loneseats.stretches import turned
from tests.plain import (ENDS, any_values, made, some_rules, told, words_is_bad, words_is_stuck, words_let,
                         words_offered, words_possible, words_refuses, words_sales, words_span)


def stretches(lengths):
    """The stretches of these lengths, with all ends."""
    return [(left, length, right) for left in ENDS for right in ENDS for length in lengths]


class Examples(unittest.TestCase):
    """[31], the document's examples and single cases."""

    def test_the_examples(self):
        pairs = Rule([2], {"sold": [1]})
        self.assertEqual([offered(pairs, ("sold", 5, "sold"), 2), is_stuck(pairs, ("sold", 3, "sold")),
                          refuses(pairs, ("wall", 3, "sold"), 2)], [[0, 3], True, False])
        self.assertEqual([offered(pairs.with_soft(True), ("sold", 3, "sold"), 2),
                          sales(pairs.with_offer(1), ("wall", 5, "wall")), pairs.span()], [[0, 1], [(2, 0)], 4])

    def test_where(self):
        stretch = ("wall", 6, "sold")
        self.assertEqual(possible(Rule([2]), stretch, 2), [0, 1, 2, 3, 4])
        self.assertEqual(possible(Rule([2], where="side"), stretch, 2), [0, 4])
        self.assertEqual(possible(Rule([2], where="side"), ("wall", 2, "sold"), 2), [0])
        self.assertEqual(possible(Rule([2], where="side"), ("wall", 1, "sold"), 2), [])

    def test_each_end_has_its_own_bad_lengths(self):
        rule = Rule([2], {"wall": [1], "pillar": [2], "sold": [3]})
        self.assertEqual(let(rule, ("wall", 8, "pillar"), 2), [0, 2, 3, 5, 6])
        self.assertEqual(let(rule, ("pillar", 8, "sold"), 2), [0, 1, 4, 5, 6])
        self.assertEqual(let(rule, ("sold", 8, "wall"), 2), [0, 1, 2, 4, 6])

    def test_what_is_left_beside_the_party_is_not_asked(self):
        rule = Rule([2], {"sold": [1]})
        self.assertEqual(let(rule, ("wall", 5, "wall"), 2), [0, 1, 2, 3])

    def test_soft_lets_all_or_only_good_ones(self):
        rule = Rule([2], {"sold": [1]}, soft=True)
        self.assertEqual([let(rule, ("sold", length, "sold"), 2) for length in range(6)],
                         [[], [], [0], [0, 1], [0, 2], [0, 3]])
        self.assertEqual([let(rule.with_soft(False), ("sold", length, "sold"), 2) for length in range(6)],
                         [[], [], [0], [], [0, 2], [0, 3]])

    def test_offer_takes_the_least_of_those_let(self):
        rule = Rule([2], {"sold": [1]})
        stretch = ("sold", 8, "sold")
        self.assertEqual(offered(rule, stretch, 2), [0, 2, 3, 4, 6])
        for offer in range(1, 6):
            self.assertEqual(offered(rule.with_offer(offer), stretch, 2), [0, 2, 3, 4, 6][:offer])
        self.assertEqual(offered(rule.with_offer(5), ("sold", 2, "sold"), 2), [0])

    def test_offer_of_what_soft_lets(self):
        rule = Rule([1], {"sold": [1, 2]}, soft=True, offer=2)
        self.assertEqual(offered(rule, ("sold", 3, "sold"), 1), [0, 1])

    def test_bad_is_told_wherever_it_stands(self):
        rule = Rule([2], {"wall": [1]}, where="side")
        self.assertEqual(possible(rule, ("wall", 6, "sold"), 2), [0, 4])
        self.assertIs(is_bad(rule, ("wall", 6, "sold"), 2, 1), True)
        self.assertIs(is_bad(rule, ("wall", 6, "sold"), 2, 2), False)
        self.assertIs(is_bad(rule, ("sold", 6, "wall"), 2, 3), True)
        self.assertIs(is_bad(rule, ("sold", 6, "pillar"), 2, 3), False)


class ByWords(unittest.TestCase):
    """[31], against the definitions."""

    def check(self, words, stretch):
        rule = made(words)
        for size in words["sizes"]:
            self.assertEqual(possible(rule, stretch, size), words_possible(words, stretch, size))
            self.assertEqual(let(rule, stretch, size), words_let(words, stretch, size))
            self.assertEqual(offered(rule, stretch, size), words_offered(words, stretch, size))
            self.assertIs(refuses(rule, stretch, size), words_refuses(words, stretch, size))
            for before in range(stretch[1] - size + 1):
                self.assertIs(is_bad(rule, stretch, size, before), words_is_bad(words, stretch, size, before))
        self.assertEqual(sales(rule, stretch), words_sales(words, stretch))
        self.assertIs(is_stuck(rule, stretch), words_is_stuck(words, stretch))

    def test_few_seats(self):
        for words in some_rules(31, 40):
            for stretch in stretches(range(12)):
                self.check(words, stretch)

    def test_about_the_span(self):
        for words in some_rules(32, 20):
            span = words_span(words)
            for stretch in stretches(range(span - 1, span + 2)):
                self.check(words, stretch)

    def test_400_seats(self):
        for words in some_rules(33, 6):
            for stretch in stretches([400]):
                self.check(words, stretch)

    def test_is_sold(self):
        kinds = [dict(words, where=where, offer=offer) for words in some_rules(34, 8)
                 for where in ("any", "side") for offer in (0, 1, 3)]
        for words in kinds:
            rule = made(words)
            for stretch in stretches((0, 1, 4, 9, 17)):
                right = words_sales(words, stretch)
                for size in range(-1, 7):
                    for before in range(-2, 19):
                        self.assertIs(is_sold(rule, stretch, (size, before)), (size, before) in right)

    def test_all_kinds_of_rules(self):
        for words in some_rules(341, 10):
            for where in ("any", "side"):
                for offer in (0, 1, 4, 5):
                    for length in (0, 1, 2, 3, 6, 11, 16, 17, 23):
                        self.check(dict(words, where=where, offer=offer), ("wall", length, "sold"))

    def test_is_sold_of_any_value(self):
        rule, stretch = Rule([1, 2]), ("wall", 4, "sold")
        right = sales(rule, stretch)
        for thing in any_values() + [(True, 0), (1, False), (1, True), [1, 0], (1,), (1, 0, 0), (1, "0"), (1, 4)]:
            is_right = type(thing) is tuple and [type(part) for part in thing] == [int, int] and thing in right
            self.assertIs(is_sold(rule, stretch, thing), is_right)
        self.assertIs(is_sold(rule, stretch, (1, 0)), True)


class Errors(unittest.TestCase):
    """[31], the errors."""

    def test_no_size(self):
        rule, stretch = Rule([1, 3]), ("wall", 6, "sold")
        for function in (possible, let, offered, refuses):
            for size in any_values() + [rule, 4]:
                if type(size) is int and size in (1, 3):
                    function(rule, stretch, size)
                    continue
                with self.assertRaises(NoSize) as caught:
                    function(rule, stretch, size)
                self.assertIs(caught.exception.size, size)

    def test_no_size_of_a_stretch_without_room(self):
        for function in (possible, let, offered, refuses):
            self.assertRaises(NoSize, function, Rule([2]), ("wall", 0, "sold"), 3)
        self.assertRaises(NoSize, is_bad, Rule([2]), ("wall", 0, "sold"), 3, 0)

    def test_no_size_ahead_of_no_choice(self):
        rule, stretch = Rule([1, 3]), ("wall", 6, "sold")
        for size in any_values():
            for before in any_values():
                is_size = type(size) is int and size in (1, 3)
                is_right = is_size and type(before) is int and 0 <= before <= 6 - size
                try:
                    answer = is_bad(rule, stretch, size, before)
                except LoneError as error:
                    self.assertIs(type(error), NoChoice if is_size else NoSize)
                    self.assertFalse(is_right)
                    if not is_size:
                        self.assertIs(error.size, size)
                else:
                    self.assertIs(answer, False)
                    self.assertTrue(is_right)

    def test_one_seat_beyond(self):
        rule = Rule([2])
        self.assertIs(is_bad(rule, ("wall", 6, "sold"), 2, 4), False)
        for before in (5, -1, True):
            self.assertRaises(NoChoice, is_bad, rule, ("wall", 6, "sold"), 2, before)


class Kept(unittest.TestCase):
    """[3], what is returned is new."""

    def test_lists_may_be_changed(self):
        for soft in (False, True):
            for offer in (0, 2):
                rule, stretch = Rule([2], {"sold": [1]}, soft=soft, offer=offer), ("sold", 3, "wall")
                for function in (possible, let, offered):
                    first = function(rule, stretch, 2)
                    kept = list(first)
                    first.append(9)
                    self.assertEqual(function(rule, stretch, 2), kept)
                first = sales(rule, stretch)
                first.clear()
                words = told([2], {"sold": [1]}, soft, "any", offer)
                self.assertEqual(sales(rule, stretch), words_sales(words, stretch))
                self.assertEqual(rule, Rule([2], {"sold": [1]}, soft=soft, offer=offer))


class Guarantees(unittest.TestCase):
    """[6] and [10]."""

    def test_room_from_the_span_on(self):
        for words in some_rules(35, 80):
            rule = made(words)
            for stretch in stretches(list(range(rule.span(), rule.span() + 6)) + [400]):
                for size in rule.sizes:
                    self.assertIs(refuses(rule, stretch, size), False)

    def test_turned_about(self):
        for words in some_rules(36, 30):
            rule = made(words).with_offer(0)
            for stretch in stretches(range(15)):
                for size in rule.sizes:
                    about = sorted(stretch[1] - size - before for before in offered(rule, stretch, size))
                    self.assertEqual(offered(rule, turned(stretch), size), about)


if __name__ == "__main__":
    unittest.main()
