import random
import unittest

from loneseats.comes import comes
from loneseats.errors import NoSize
from loneseats.lone import hall_refusal, is_never_lone, lone_lengths, lone_play, lone_sizes
from loneseats.plans import Plan
from loneseats.plays import is_play
from loneseats.rules import Rule
from tests.plain import (ENDS, any_values, copied, made, same, some_rules, told, words_behind, words_comes, words_free,
                         words_plan_states, words_refuses, words_round, words_sales_then, words_states, words_truths)

STRICT = Rule([2], {"sold": [1]})
EVERY = [1, 2, 3, 4, 5]
ROWS = ([[7]], [[1], [2]], [[5, 3]], [[4, 1, 6], [9]], [[3], [8, 2], [5]], [[12, 12, 12, 12, 12]], [[30], [30]], [[60]])


def words_is_lone(words, stretch, size):
    return stretch[1] >= size and words_refuses(words, stretch, size)


def lone_rules(seed, many):
    """Rules of which many leave lone stretches, told by dicts."""
    chance = random.Random(seed)
    found = some_rules(seed, many)
    for at, words in enumerate(found):
        if at % 4:
            words["soft"] = False
            words["bad"] = {end: chance.sample(range(1, 4), chance.randint(1, 3)) for end in ENDS}
    return found


class Examples(unittest.TestCase):
    """[71], the document's examples."""

    def test_lone_play(self):
        self.assertEqual([lone_play(STRICT, ("sold", 3, "sold"), 2), len(lone_play(STRICT, ("sold", 8, "sold"), 2))],
                         [[], 1])

    def test_lone_lengths(self):
        self.assertTrue(same(lone_lengths(STRICT, "sold", "sold", 2),
                             (7, 1, (False, False, False, True, False, True, False, True))))


class LoneSizes(unittest.TestCase):
    """[71], lone_sizes."""

    def test_by_words(self):
        for words in lone_rules(711, 40):
            for left in ENDS:
                for length in list(range(22)) + [400]:
                    stretch = (left, length, "sold")
                    right = [size for size in sorted(set(words["sizes"])) if words_is_lone(words, stretch, size)]
                    self.assertTrue(same(lone_sizes(made(words), stretch), right))

    def test_as_many_seats_as_the_size(self):
        rule = Rule(EVERY, {"wall": EVERY, "sold": EVERY})
        self.assertEqual(lone_sizes(rule, ("wall", 3, "sold")), [1, 2])
        self.assertEqual(lone_sizes(rule, ("wall", 0, "sold")), [])
        lone_sizes(rule, ("wall", 3, "sold")).clear()
        self.assertEqual(lone_sizes(rule, ("wall", 3, "sold")), [1, 2])


class LonePlay(unittest.TestCase):
    """[71], lone_play."""

    def check(self, words, stretch, size, fewest):
        """fewest is a dict from the stretches that come to the fewest sales they need."""
        play = lone_play(made(words), stretch, size)
        many = [fewest[part] for part in fewest if words_is_lone(words, part, size)]
        if not many:
            self.assertIsNone(play)
            return
        self.assertIs(type(play), list)
        self.assertEqual(len(play), min(many))
        for at, sale in enumerate(play):
            self.assertIs(type(sale), tuple)
            self.assertIn(sale, words_sales_then(words, stretch, play[:at]))
        self.assertTrue(any(words_is_lone(words, part, size) for seat, part in words_free(stretch, play)))

    def test_all_plays_of_short_stretches(self):
        chance = random.Random(712)
        for words in lone_rules(712, 40):
            stretch = (chance.choice(ENDS), chance.randint(0, 8), chance.choice(ENDS))
            fewest = {}
            for state in words_states(words, stretch):
                for seat, part in words_free(stretch, state):
                    fewest[part] = min(fewest.get(part, 99), len(state))
            for size in words["sizes"]:
                self.check(words, stretch, size, fewest)

    def test_to_sixty_seats(self):
        chance = random.Random(713)
        for words in lone_rules(713, 24):
            for length in (20, 41, 60):
                stretch = (chance.choice(ENDS), length, chance.choice(ENDS))
                for size in words["sizes"]:
                    self.check(words, stretch, size, words_comes(words, stretch))

    def test_none(self):
        self.assertIsNone(lone_play(Rule([1]), ("wall", 60, "wall"), 1))
        self.assertIsNone(lone_play(STRICT, ("wall", 0, "wall"), 2))
        self.assertIsNone(lone_play(STRICT.with_soft(True), ("wall", 30, "wall"), 2))


class IsNeverLone(unittest.TestCase):
    """[71], is_never_lone."""

    def test_of_what_comes(self):
        chance = random.Random(714)
        seen = []
        for words in lone_rules(714, 40):
            rule = made(words)
            for length in (0, 1, 3, 8, 14):
                stretch = (chance.choice(ENDS), length, chance.choice(ENDS))
                found = comes(rule, stretch)
                for size in words["sizes"]:
                    right = not any(words_is_lone(words, part, size) for part in found)
                    seen.append(right)
                    self.assertIs(is_never_lone(rule, stretch, size, found), right)
                    self.assertIs(is_never_lone(rule, stretch, size, list(reversed(found)) + found), right)
                    if length > 0:
                        self.assertIs(is_never_lone(rule, stretch, size, []), False)
                        self.assertIs(is_never_lone(rule, stretch, size, [part for part in found if part != stretch]),
                                      False)
                        self.assertIs(is_never_lone(rule, ("wall", 99, "wall"), size, found), False)
        self.assertTrue(20 < sum(seen) < len(seen) - 20, (sum(seen), len(seen)))

    def test_closed_lists_alone(self):
        rule, stretch = Rule([1, 3]), ("wall", 4, "pillar")
        found = comes(rule, stretch)
        self.assertIs(is_never_lone(rule, stretch, 3, found), True)
        for part in found:
            self.assertIs(is_never_lone(rule, stretch, 3, [other for other in found if other != part]), False)
        kept = copied(found)
        for more in ([("wall", 0, "wall")], [("wall", 401, "wall")], [None], [["wall", 1, "wall"]]):
            self.assertIs(is_never_lone(rule, stretch, 3, found + more), False)
        self.assertEqual(found, kept)

    def test_others_that_are_lone(self):
        """A list with a lone stretch shows nothing, even if this one does not come."""
        self.assertIs(is_never_lone(STRICT, ("sold", 2, "sold"), 2, [("sold", 2, "sold")]), True)
        self.assertIs(is_never_lone(STRICT, ("sold", 2, "sold"), 2, [("sold", 2, "sold"), ("sold", 3, "sold")]), False)

    def test_without_seats(self):
        none = ("wall", 0, "sold")
        self.assertIs(is_never_lone(STRICT, none, 2, []), True)
        self.assertIs(is_never_lone(STRICT, none, 2, [("sold", 2, "sold")]), True)
        self.assertIs(is_never_lone(STRICT, none, 2, [("sold", 3, "sold")]), False)
        self.assertIs(is_never_lone(STRICT, none, 2, [none]), False)
        self.assertIs(is_never_lone(STRICT, none, 2, [("sold", 5, "sold")]), False)

    def test_any_values(self):
        for thing in any_values():
            self.assertIs(is_never_lone(STRICT, ("sold", 2, "sold"), 2, thing), False)
            self.assertIs(is_never_lone(STRICT, ("sold", 2, "sold"), 2, [("sold", 2, "sold"), thing]), False)
            self.assertIs(is_never_lone(STRICT, ("wall", 0, "sold"), 2, thing), same(thing, []))


class LoneLengths(unittest.TestCase):
    """[71], lone_lengths."""

    def check(self, words, left, right, size, upto=150):
        truths = words_truths(words, left, right, lambda stretch: words_is_lone(words, stretch, size), upto)
        self.assertTrue(same(lone_lengths(made(words), left, right, size), words_round(truths)))

    def test_by_words(self):
        chance = random.Random(715)
        for words in lone_rules(715, 30):
            for size in words["sizes"]:
                self.check(words, chance.choice(ENDS), chance.choice(ENDS), size)

    def test_sides_and_offers(self):
        for sizes in ([5], [2, 4], [4, 5]):
            for where in ("any", "side"):
                for offer in (0, 1, 5):
                    for soft in (False, True):
                        words = told(sizes, {"sold": [1, 2, 3], "wall": [5, 1], "pillar": EVERY}, soft, where, offer)
                        self.check(words, "wall", "pillar", sizes[0])
                        self.check(words, "sold", "sold", sizes[-1])

    def test_length_by_length(self):
        chance = random.Random(716)
        for words in lone_rules(716, 12):
            rule, left, right = made(words), chance.choice(ENDS), chance.choice(ENDS)
            size = chance.choice(words["sizes"])
            start, period, truths = lone_lengths(rule, left, right, size)
            self.assertEqual(len(truths), start + period)
            for length in range(61):
                at = length if length < start else start + (length - start) % period
                play = lone_play(rule, (left, length, right), size)
                self.assertIs(truths[at], play is not None)

    def test_never(self):
        self.assertTrue(same(lone_lengths(Rule([1]), "wall", "wall", 1), (0, 1, (False,))))


class HallRefusal(unittest.TestCase):
    """[71], hall_refusal."""

    def is_refusal(self, words, rows, play, size):
        stretches = [stretch for row, seat, stretch in words_behind(rows, play)]
        return (all(words_refuses(words, stretch, size) for stretch in stretches)
                and any(stretch[1] >= size for stretch in stretches))

    def test_all_plays_of_small_plans(self):
        chance = random.Random(717)
        seen = []
        for words in lone_rules(717, 40):
            rows = chance.choice([[[4], [3]], [[3, 3]], [[2, 4], [1]], [[2], [2, 3]], [[1, 1, 2]], [[7]]])
            for size in words["sizes"]:
                right = any(self.is_refusal(words, rows, state, size) for state in words_plan_states(words, rows))
                seen.append(right)
                self.check(words, rows, size, right)
        self.assertTrue(10 < sum(seen) < len(seen) - 10, (sum(seen), len(seen)))

    def check(self, words, rows, size, right):
        rule, plan = made(words), Plan(rows)
        play = hall_refusal(rule, plan, size)
        if not right:
            self.assertIsNone(play)
            return
        self.assertIs(type(play), list)
        self.assertTrue(all(type(sale) is tuple for sale in play))
        self.assertIs(is_play(rule, plan, play), True)
        self.assertTrue(self.is_refusal(words, rows, play, size))

    def test_greater_plans(self):
        for words in lone_rules(718, 16):
            for rows in ROWS:
                for size in words["sizes"]:
                    stretches = [stretch for row, seat, stretch in Plan(rows).stretches()]
                    right = any(words_is_lone(words, part, size)
                                for stretch in stretches for part in words_comes(words, stretch))
                    self.check(words, rows, size, right)

    def test_a_plan_that_refuses_at_once(self):
        self.assertEqual(hall_refusal(Rule([3], {"wall": [1]}), Plan([[4], [1]]), 3), [])
        self.assertIsNone(hall_refusal(Rule([3], {"wall": [1]}), Plan([[3], [1]]), 3))


class Errors(unittest.TestCase):
    """[71], NoSize(size)."""

    def test_any_values(self):
        for thing in any_values():
            if same(thing, 2):
                continue
            for ask in (lambda: lone_play(STRICT, ("wall", 7, "wall"), thing),
                        lambda: is_never_lone(STRICT, ("wall", 7, "wall"), thing, []),
                        lambda: is_never_lone(STRICT, ("wall", 7, "wall"), thing, None),
                        lambda: lone_lengths(STRICT, "wall", "wall", thing),
                        lambda: hall_refusal(STRICT, Plan([[7]]), thing)):
                with self.assertRaises(NoSize) as caught:
                    ask()
                self.assertIs(caught.exception.size, thing)


if __name__ == "__main__":
    unittest.main()
