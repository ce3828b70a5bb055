import random
import time
import unittest

from loneseats.alikes import alike, is_parting, parting
from loneseats.rules import Rule
from loneseats.totals import greatest, least
from loneseats.worths import Worth
from tests.plain import (ENDS, any_values, copied, made, same, some_rules, told, words_free, words_sales)

STRICT = Rule([2], {"sold": [1]})
SIDES = ("pillar", "wall")
ROWS = [(left, right) for left in SIDES for right in SIDES]


def both_sales(one, other, stretch, sold):
    """All sales (seat, size) that both rules offer behind others in a stretch."""
    return [(first + before, size) for first, part in words_free(stretch, sold)
            for size, before in words_sales(one, part) if (size, before) in words_sales(other, part)]


def words_reached(one, other, row):
    """All stretches that plays of a row by both rules leave, by the definition, state by state."""
    found, seen, waiting = set(), {()}, [()]
    while waiting:
        state = waiting.pop()
        found |= {part for first, part in words_free(row, state)}
        for sale in both_sales(one, other, row, state):
            later = tuple(sorted(state + (sale,)))
            if later not in seen:
                seen.add(later)
                waiting.append(later)
    return found


def words_parted_length(one, other, upto):
    """The least length of a row that leads to unlike choices by plays of both rules, None if none has, part by part."""
    known = {}

    def leads(stretch):
        if stretch not in known:
            left, length, right = stretch
            ones, others = words_sales(one, stretch), words_sales(other, stretch)
            known[stretch] = ones != others or any(
                leads((left, before, "sold")) or leads(("sold", length - size - before, right))
                for size, before in ones if (size, before) in others)
        return known[stretch]

    for length in range(upto + 1):
        if any([leads((left, length, right)) for left, right in ROWS]):
            return length
    return None


def near_rules(seed, many):
    """Tuples of two rules that differ in few words."""
    chance = random.Random(seed)
    found = []
    for one in some_rules(seed, many):
        other = copied(one)
        for _ in range(chance.choice([1, 1, 2])):
            word = chance.choice(["soft", "bad", "bad", "offer", "where", "sizes"])
            if word == "soft":
                other["soft"] = not other["soft"]
            elif word == "bad":
                end, length = chance.choice(ENDS), chance.randint(1, 5)
                lengths = other["bad"].get(end, [])
                other["bad"][end] = [some for some in lengths if some != length] if length in lengths else lengths + [length]
            elif word == "offer":
                other["offer"] = chance.randint(0, 5)
            elif word == "where":
                other["where"] = "side" if other["where"] == "any" else "any"
            else:
                other["sizes"] = chance.sample(range(1, 6), 2)
        found.append((one, other))
    return found


class Examples(unittest.TestCase):
    """[81], the document's examples."""

    def test_examples(self):
        self.assertIs(alike(STRICT, STRICT.with_soft(True)), False)
        self.assertEqual(parting(STRICT, STRICT.with_soft(True))[0][1], 7)


class Partings(unittest.TestCase):
    """[81], alike, parting and is_parting."""

    def check(self, one, other):
        """Whether two rules, told by dicts, are alike, held against the definition; it returns the parting."""
        length = words_parted_length(one, other, 60)
        rules = made(one), made(other)
        self.assertIs(alike(*rules), length is None)
        self.assertIs(alike(rules[1], rules[0]), length is None)
        found = parting(*rules)
        if length is None:
            self.assertIsNone(found)
            return None
        row, play, seat, stretch = found
        self.assertEqual([type(part) for part in found], [tuple, list, int, tuple])
        self.assertIs(type(found), tuple)
        self.assertEqual(row[1], length)
        self.assertTrue(row[0] in SIDES and row[2] in SIDES)
        for at, sale in enumerate(play):
            self.assertIs(type(sale), tuple)
            self.assertIn(sale, both_sales(one, other, row, play[:at]))
        self.assertIn((seat, stretch), words_free(row, play))
        self.assertNotEqual(words_sales(one, stretch), words_sales(other, stretch))
        self.assertIs(is_parting(*rules, found), True)
        self.assertIs(is_parting(rules[1], rules[0], found), True)
        self.assertIsNotNone(parting(rules[1], rules[0]))
        return found

    def test_near_rules(self):
        found = [self.check(one, other) for one, other in near_rules(811, 120)]
        self.assertGreater(found.count(None), 10)
        plays = [len(told[1]) for told in found if told is not None]
        self.assertTrue(plays.count(0) > 15 and plays.count(1) > 5)

    def test_more_sales_on_the_way(self):
        seen = []
        for one, other in near_rules(812, 400):
            length = words_parted_length(one, other, 60)
            if length is not None and length > 7:
                seen.append(len(self.check(one, other)[1]))
        self.assertTrue(seen and max(seen) >= 2, seen)

    def test_all_plays_of_short_rows(self):
        for one, other in near_rules(813, 60):
            for length in range(8):
                unlike = [part for left, right in ROWS for part in words_reached(one, other, (left, length, right))
                          if words_sales(one, part) != words_sales(other, part)]
                if unlike:
                    self.assertEqual(parting(made(one), made(other))[0][1], length)
                    self.assertIs(alike(made(one), made(other)), False)
                    break
            else:
                found = parting(made(one), made(other))
                self.assertTrue(found is None or found[0][1] >= 8)

    def test_a_rule_and_itself(self):
        for words in some_rules(814, 20):
            self.assertIs(alike(made(words), made(words)), True)
            self.assertIsNone(parting(made(words), made(words)))

    def test_what_never_shows(self):
        every = [1, 2, 3, 4, 5]
        some = [
            # Soft asks for nothing where no choice is bad.
            (told([2, 3]), told([2, 3], soft=True)),
            (told([2], {}, False, "side", 1), told([2], {}, True, "side", 1)),
            # At the sides two choices are offered at most.
            (told([3], where="side", offer=2), told([3], where="side", offer=5)),
            (told([3], where="side", offer=0), told([3], where="side", offer=2)),
            # The first choice alone leaves nothing at its left, so no play leaves a bad length beside a sold seat.
            (told([2], {}, False, "any", 1), told([2], {"sold": every}, False, "any", 1)),
            (told([1, 4], {}, True, "side", 1), told([1, 4], {"sold": [2, 3]}, False, "side", 1)),
        ]
        for one, other in some:
            self.assertIsNone(self.check(one, other))
        self.assertIsNotNone(self.check(told([2], {}, False, "any", 1), told([2], {"wall": [5]}, False, "any", 1)))
        self.assertIsNotNone(self.check(told([2], {}, False, "any", 2), told([2], {"sold": [1]}, False, "any", 2)))

    def test_only_rows_between_pillars_and_walls_count(self):
        one, other = told([2], {}, False, "any", 1), told([2], {"sold": [2]}, False, "any", 1)
        self.assertNotEqual(words_sales(one, ("sold", 4, "sold")), words_sales(other, ("sold", 4, "sold")))
        self.assertIs(alike(made(one), made(other)), True)
        for end in SIDES:
            found = self.check(told([2]), told([2], {end: [3]}))
            self.assertIn(end, found[0])
            self.assertEqual(found[:2], (found[3], []))

    def test_alike_rules_come_to_the_same(self):
        chance = random.Random(817)
        seen = 0
        for one, other in near_rules(818, 200):
            if one != other and alike(made(one), made(other)):
                seen += 1
                common = [size for size in one["sizes"] if size in other["sizes"]]
                worth = Worth({size: chance.randint(0, 9) for size in common}, chance.randint(0, 9),
                              until=chance.choice([0] + common))
                for left, right in ROWS:
                    for length in (0, 1, 5, 17, 60):
                        stretch = (left, length, right)
                        self.assertEqual(greatest(made(one), worth, stretch), greatest(made(other), worth, stretch))
                        self.assertEqual(least(made(one), worth, stretch), least(made(other), worth, stretch))
        self.assertGreater(seen, 10)

    def test_in_time(self):
        first = time.process_time()
        every = {end: [5] for end in ENDS}
        self.assertIs(alike(Rule([1, 2, 3, 4, 5], every), Rule([1, 2, 3, 4, 5], every)), True)
        self.assertIsNotNone(parting(Rule([1, 2, 3, 4, 5], every), Rule([1, 2, 3, 4, 5], {"sold": [4]})))
        self.assertLess(time.process_time() - first, 5)

    def test_answers_are_new(self):
        rules = STRICT, STRICT.with_soft(True)
        first = parting(*rules)
        kept = copied(first)
        first[1].clear()
        self.assertTrue(kept[1])
        self.assertEqual(parting(*rules), kept)


class IsParting(unittest.TestCase):
    """[81], is_parting of right and of bent tuples."""

    soft = STRICT.with_soft(True)

    def of(self, thing):
        return is_parting(STRICT, self.soft, thing)

    def test_the_example(self):
        row, play = ("wall", 7, "wall"), [(2, 2)]
        self.assertIs(self.of((row, [(2, 2)], 4, ("sold", 3, "wall"))), False)
        right = (row, [(0, 2), (5, 2)], 2, ("sold", 3, "sold"))
        self.assertIs(self.of(right), True)
        self.assertIs(self.of((row, [(5, 2), (0, 2)], 2, ("sold", 3, "sold"))), True)
        # Another seat, another stretch, one that is sold, one that is not told whole, one in which nothing is unlike.
        for seat, stretch in ((1, ("sold", 3, "sold")), (3, ("sold", 2, "sold")), (0, ("wall", 2, "sold")),
                              (2, ("sold", 2, "sold")), (2, ("sold", 3, "wall")), (5, ("sold", 2, "wall")),
                              (7, ("sold", 0, "wall")), (2, ("sold", 4, "sold"))):
            self.assertIs(self.of((row, [(0, 2), (5, 2)], seat, stretch)), False)

    def test_longer_rows(self):
        for length in range(8, 61):
            for left, right in ROWS:
                row = (left, length, right)
                self.assertIs(self.of((row, [(0, 2), (5, 2)], 2, ("sold", 3, "sold"))), True)
                self.assertIs(self.of((row, [(length - 2, 2), (length - 7, 2)], length - 5, ("sold", 3, "sold"))), True)
        for length in (61, 62, 400, 10 ** 40):
            self.assertIs(self.of((("wall", length, "wall"), [(0, 2), (5, 2)], 2, ("sold", 3, "sold"))), False)

    def test_rows_with_a_sold_end(self):
        for left in ENDS:
            for right in ENDS:
                truth = "sold" not in (left, right)
                self.assertIs(self.of(((left, 7, right), [(0, 2), (5, 2)], 2, ("sold", 3, "sold"))), truth)
        self.assertIs(self.of((("sold", 3, "sold"), [], 0, ("sold", 3, "sold"))), False)

    def test_the_row_itself(self):
        one, other = Rule([2], {"wall": [1]}), Rule([2], {"wall": [2]})
        self.assertIs(is_parting(one, other, (("wall", 3, "wall"), [], 0, ("wall", 3, "wall"))), True)
        self.assertIs(is_parting(one, other, (("wall", 3, "wall"), [], 1, ("wall", 3, "wall"))), False)
        self.assertIs(is_parting(one, other, (("wall", 3, "pillar"), [], 0, ("wall", 3, "wall"))), False)
        self.assertIs(is_parting(one, one, (("wall", 3, "wall"), [], 0, ("wall", 3, "wall"))), False)

    def test_plays_by_one_rule_alone(self):
        one, other = Rule([2]), Rule([2], {"wall": [1]})
        # Behind the sale (1, 2), which one alone offers, both offer unlike choices at the right.
        thing = (("wall", 8, "wall"), [(1, 2)], 3, ("sold", 5, "wall"))
        self.assertIs(is_parting(one, one.with_where("side"), thing), False)
        self.assertIs(is_parting(one, other, thing), False)
        self.assertIs(is_parting(other, one, thing), False)
        self.assertIs(is_parting(one, other, (("wall", 8, "wall"), [(0, 2)], 2, ("sold", 6, "wall"))), True)

    def test_what_goes_through_a_stretch_of_unlike_choices(self):
        one, other = Rule([1, 2]), Rule([2])
        thing = (("wall", 9, "wall"), [(3, 2)], 5, ("sold", 4, "wall"))
        self.assertIs(is_parting(one, other, thing), True)
        self.assertIs(is_parting(one, other, (("wall", 9, "wall"), [(3, 1)], 4, ("sold", 5, "wall"))), False)

    def test_bent(self):
        row, play, seat, stretch = ("wall", 7, "wall"), [(0, 2), (5, 2)], 2, ("sold", 3, "sold")
        wrong = [
            [row, play, seat, stretch], (row, play, seat), (row, play, seat, stretch, stretch), (),
            (list(row), play, seat, stretch), (row, tuple(play), seat, stretch), (row, play, seat, list(stretch)),
            (row, [[0, 2], (5, 2)], seat, stretch), (row, [(0, 2), (5, 2, 0)], seat, stretch),
            (row, [(0, 0, 2), (0, 5, 2)], seat, stretch), (row, [(0, 2), None], seat, stretch),
            (row, [(0, 2), (5, 2), (2, 2)], seat, stretch), (row, [(5, 2)], seat, stretch), (row, [], seat, stretch),
            (row, [(0, 2), (5, 2), (5, 2)], seat, stretch), (row, [(False, 2), (5, 2)], seat, stretch),
            (("Wall", 7, "wall"), play, seat, stretch), (("wall", 7), play, seat, stretch),
            (("wall", -7, "wall"), play, seat, stretch), (row, play, "2", stretch), (row, play, -5, stretch),
            (row, play, None, stretch), (row, play, seat, ("sold", "3", "sold")), (row, play, (seat, stretch), None)]
        self.assertIs(self.of((row, play, seat, stretch)), True)
        for thing in wrong:
            with self.subTest(thing=thing):
                self.assertIs(self.of(thing), False)

    def test_truths_for_numbers(self):
        one, other = Rule([1]), Rule([1], {"sold": [1]})
        right = (("wall", 3, "wall"), [(0, 1)], 1, ("sold", 2, "wall"))
        self.assertIs(is_parting(one, other, right), True)
        row, play, seat, stretch = right
        for thing in ((row, play, True, stretch), (row, [(False, 1)], seat, stretch), (row, [(0, True)], seat, stretch)):
            self.assertIs(is_parting(one, other, thing), False)
        small = (("wall", 1, "wall"), [], 0, ("wall", 1, "wall"))
        self.assertIs(is_parting(one, Rule([2]), small), True)
        for thing in ((("wall", True, "wall"), [], 0, ("wall", 1, "wall")), (small[0], [], False, small[0]),
                      (small[0], [], 0, ("wall", True, "wall"))):
            self.assertIs(is_parting(one, Rule([2]), thing), False)

    def test_any_values(self):
        right = (("wall", 7, "wall"), [(0, 2), (5, 2)], 2, ("sold", 3, "sold"))
        for thing in any_values():
            self.assertIs(self.of(thing), False)
            for at in range(4):
                some = list(right)
                some[at] = thing
                self.assertIs(self.of(tuple(some)), same(thing, right[at]))
            for at in range(3):
                self.assertIs(self.of((right[0], [(0, 2), (5, 2), thing][at:] + [(0, 2)], 2, right[3])), False)
                row, stretch = list(right[0]), list(right[3])
                row[at], stretch[at] = thing, thing
                truth = same(thing, 60) if at == 1 else same(thing, "wall") or same(thing, "pillar")
                self.assertIs(self.of((tuple(row),) + right[1:]), truth)
                self.assertIs(self.of(right[:3] + (tuple(stretch),)), same(thing, right[3][at]))

    def test_what_is_passed_stays(self):
        right = (("wall", 7, "wall"), [(0, 2), (5, 2)], 2, ("sold", 3, "sold"))
        kept = copied(right)
        self.of(right)
        self.of((right[0], right[1], 0, right[3]))
        self.assertTrue(same(right, kept))


if __name__ == "__main__":
    unittest.main()
