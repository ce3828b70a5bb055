import random
import unittest

from loneseats.comes import comes, is_closed, lengths_of, way_to
from loneseats.rules import Rule
from loneseats.totals import left_behind
from tests.plain import (ENDS, PAIRS, any_values, copied, made, same, some_rules, told, words_comes, words_free,
                         words_parts, words_round, words_sales_then, words_states, words_truths)

STRICT = Rule([2], {"sold": [1]})
EVERY = [1, 2, 3, 4, 5]


class Examples(unittest.TestCase):
    """[70], the document's examples."""

    def test_comes(self):
        self.assertEqual(comes(STRICT, ("sold", 5, "sold")), [("sold", 3, "sold"), ("sold", 5, "sold")])

    def test_lengths_of(self):
        self.assertTrue(same(lengths_of(STRICT, "sold", "sold", ("sold", 3, "sold")),
                             (7, 1, (False, False, False, True, False, True, False, True))))


class Comes(unittest.TestCase):
    """[70], comes and way_to."""

    def test_all_plays_of_short_stretches(self):
        chance = random.Random(701)
        for words in some_rules(701, 30):
            stretch = (chance.choice(ENDS), chance.randint(0, 8), chance.choice(ENDS))
            fewest = {}
            for state in words_states(words, stretch):
                for seat, part in words_free(stretch, state):
                    fewest[part] = min(fewest.get(part, 99), len(state))
            self.assertTrue(same(comes(made(words), stretch), sorted(fewest)))
            for left, right in PAIRS:
                for length in range(stretch[1] + 2):
                    self.check_way(words, stretch, (left, length, right), fewest)

    def test_to_sixty_seats(self):
        chance = random.Random(702)
        for words in some_rules(702, 24):
            stretch = (chance.choice(ENDS), chance.choice([20, 33, 47, 60]), chance.choice(ENDS))
            fewest = words_comes(words, stretch)
            self.assertTrue(same(comes(made(words), stretch), sorted(fewest)))
            for other in chance.sample(sorted(fewest), min(12, len(fewest))):
                self.check_way(words, stretch, other, fewest)
            for _ in range(6):
                self.check_way(words, stretch, (chance.choice(ENDS), chance.randint(0, 61), chance.choice(ENDS)), fewest)

    def check_way(self, words, stretch, other, fewest):
        play = way_to(made(words), stretch, other)
        if other not in fewest:
            self.assertIsNone(play)
            return
        self.assertIs(type(play), list)
        self.assertEqual(len(play), fewest[other])
        for at, sale in enumerate(play):
            self.assertIs(type(sale), tuple)
            self.assertIn(sale, words_sales_then(words, stretch, play[:at]))
        self.assertIn(other, [part for seat, part in left_behind(made(words), stretch, play)])

    def test_no_seats(self):
        for left, right in PAIRS:
            self.assertEqual(comes(STRICT, (left, 0, right)), [])
            self.assertIsNone(way_to(STRICT, (left, 0, right), (left, 0, right)))
            self.assertIsNone(way_to(STRICT, (left, 0, right), (left, 1, right)))
            self.assertIsNone(way_to(STRICT, (left, 7, right), (left, 0, right)))
            self.assertIsNone(way_to(STRICT, (left, 7, right), ("sold", 0, "sold")))

    def test_itself(self):
        for words in some_rules(703, 10):
            for length in (1, 2, 9, 60):
                stretch = ("wall", length, "sold")
                self.assertEqual(way_to(made(words), stretch, stretch), [])
                self.assertIn(stretch, comes(made(words), stretch))

    def test_answers_are_new(self):
        for ask in (lambda: comes(STRICT, ("wall", 9, "wall")),
                    lambda: way_to(STRICT, ("wall", 9, "wall"), ("sold", 2, "sold"))):
            first = ask()
            kept = list(first)
            self.assertTrue(kept)
            first.clear()
            self.assertEqual(ask(), kept)


class Closed(unittest.TestCase):
    """[70], is_closed."""

    def words_is_closed(self, words, thing):
        return all(part in thing for whole in thing for part in words_parts(words, whole))

    def test_what_comes_is_closed(self):
        chance = random.Random(704)
        seen = []
        for words in some_rules(704, 30):
            rule = made(words)
            stretch = (chance.choice(ENDS), chance.choice([1, 5, 12, 30]), chance.choice(ENDS))
            found = comes(rule, stretch)
            self.assertIs(is_closed(rule, found), True)
            self.assertIs(is_closed(rule, list(reversed(found))), True)
            self.assertIs(is_closed(rule, found + found), True)
            chance.shuffle(found)
            self.assertIs(is_closed(rule, found + found[:2]), True)
            for _ in range(12):
                some = list(found)
                some.pop(chance.randrange(len(some)))
                if chance.random() < 0.5:
                    some.append((chance.choice(ENDS), chance.randint(1, 12), chance.choice(ENDS)))
                kept = copied(some)
                seen.append(self.words_is_closed(words, some))
                self.assertIs(is_closed(rule, some), seen[-1], (words, some))
                self.assertEqual(some, kept)
        self.assertTrue(30 < sum(seen) < len(seen) - 30)

    def test_few_stretches(self):
        chance = random.Random(705)
        for words in some_rules(705, 40):
            for _ in range(20):
                some = [(chance.choice(ENDS), chance.randint(1, 7), chance.choice(ENDS))
                        for _ in range(chance.randint(0, 4))]
                self.assertIs(is_closed(made(words), some), self.words_is_closed(words, some))

    def test_none(self):
        self.assertIs(is_closed(STRICT, []), True)

    def test_only_parts_of_what_is_listed(self):
        """Parts need be there for each size, and those at both sides."""
        rule = Rule([1, 3])
        found = comes(rule, ("wall", 4, "pillar"))
        for part in found:
            rest = [other for other in found if other != part]
            self.assertIs(is_closed(rule, rest), part == ("wall", 4, "pillar"))

    def test_lengths(self):
        rule = Rule([5], {end: EVERY for end in ENDS}, where="side", offer=1)
        for length, right in ((0, False), (1, True), (4, True), (-1, False), (True, False)):
            self.assertIs(is_closed(rule, [("wall", length, "wall")]), right)
        every = [(left, length, right) for left in ENDS for right in ENDS for length in range(1, 401)]
        self.assertIs(is_closed(rule, every), True)
        self.assertIs(is_closed(rule, every + [("wall", 401, "wall")]), False)
        self.assertIs(is_closed(rule, every + [("wall", 0, "wall")]), False)
        self.assertIs(is_closed(Rule(EVERY), every), True)
        for at in (400, 1997):
            self.assertIs(is_closed(Rule([1]), every[:at] + every[at + 1:]), every[at][1] == 400)

    def test_any_values(self):
        for thing in any_values():
            self.assertIs(is_closed(STRICT, thing), same(thing, []))
            right = same(thing, ("wall", 3, "sold")) and is_closed(STRICT, [("wall", 3, "sold")])
            self.assertIs(is_closed(STRICT, [thing]), right, repr(thing)[:60])
            self.assertIs(is_closed(STRICT, [("sold", 1, "sold"), thing, ("sold", 1, "sold")]), False)
        for thing in ((("sold", 1, "sold"),), {("sold", 1, "sold"): 1}, "sold", [["sold", 1, "sold"]],
                      [("sold", 1)], [("sold", "1", "sold")], [("Sold", 1, "sold")], [("sold", 1, "sold", 1)]):
            self.assertIs(is_closed(STRICT, thing), False)


class LengthsOf(unittest.TestCase):
    """[70], lengths_of."""

    def check(self, words, left, right, other, upto=190):
        found = lengths_of(made(words), left, right, other)
        truths = words_truths(words, left, right, lambda stretch: stretch == other, upto)
        self.assertTrue(same(found, words_round(truths)), (words, left, right, other, found))

    def test_by_words(self):
        chance = random.Random(706)
        for words in some_rules(706, 26):
            other = (chance.choice(ENDS), chance.choice([1, 2, 3, 4, 5, 7, 12, 40]), chance.choice(ENDS))
            self.check(words, chance.choice([other[0], "wall"]), chance.choice([other[2], "sold"]), other)

    def test_sides_and_offers(self):
        chance = random.Random(707)
        for sizes in ([5], [4], [2, 4], [3, 5], [1, 2, 3, 4, 5], [4, 5]):
            for where in ("any", "side"):
                for offer in (0, 1, 5):
                    words = told(sizes, {"sold": chance.choice([[1, 2, 3], EVERY, [], [5]])}, offer % 2 > 0, where, offer)
                    other = ("sold", chance.randint(1, 9), chance.choice(ENDS))
                    self.check(words, "wall", other[2], other, 150)
                    self.check(words, "sold", other[2], other, 150)

    def test_a_great_other(self):
        for length in (39, 40):
            for words in (told([5], where="side"), told([4, 5], {"sold": EVERY}), told([3], {"sold": EVERY}, offer=1)):
                for left, right in (("sold", "sold"), ("wall", "sold")):
                    self.check(words, left, right, ("sold", length, "sold"), 260)

    def test_length_by_length(self):
        chance = random.Random(708)
        for words in some_rules(708, 6):
            rule = made(words)
            left, right = chance.choice(PAIRS)
            other = ("sold", chance.randint(1, 6), right)
            start, period, truths = lengths_of(rule, left, right, other)
            self.assertEqual(len(truths), start + period)
            for length in range(61):
                at = length if length < start else start + (length - start) % period
                self.assertIs(truths[at], other in comes(rule, (left, length, right)))

    def test_never(self):
        self.assertTrue(same(lengths_of(STRICT, "sold", "sold", ("sold", 1, "sold")), (2, 1, (False, True, False))))
        self.assertTrue(same(lengths_of(STRICT, "sold", "sold", ("pillar", 1, "sold")), (0, 1, (False,))))
        self.assertTrue(same(lengths_of(STRICT, "sold", "sold", ("wall", 1, "sold")), (0, 1, (False,))))
        self.assertTrue(same(lengths_of(STRICT, "wall", "wall", ("wall", 2, "wall")), (3, 1, (False, False, True, False))))

    def test_greater_periods(self):
        for size in EVERY:
            rule = Rule([size], where="side")
            truths = tuple(length > 0 and length % size == 0 for length in range(size + 1))
            self.assertTrue(same(lengths_of(rule, "sold", "sold", ("sold", size, "sold")), (1, size, truths)))


if __name__ == "__main__":
    unittest.main()
