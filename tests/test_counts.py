import itertools
import random
import time
import unittest

from loneseats.counts import (aways, aways_in_order, first_refusal, good_order, is_script, script_with,
                              surely_seated)
from loneseats.plans import Plan
from loneseats.rules import Rule
from tests.plain import any_values, copied, made, same, some_rules, told, words_sales_behind

PLAN, LOOSE, NEAT = Plan([[5]]), Rule([2, 3]), Rule([2, 3], {"sold": [1], "wall": [1]})
SMALL = ([[5]], [[6]], [[7]], [[3, 2]], [[2], [4]], [[1, 1, 3]], [[4], [1], [2]], [[3, 4]], [[2, 2], [2]])


def parties_of(counts):
    """The sizes of all parties, ascending."""
    return sorted(size for size in counts for _ in range(counts[size]))


class Words:
    """All scripts by the definition, told by the sets of sales that they come to."""

    def __init__(self, words, rows):
        self.words = words
        self.rows = rows
        self.known = {}

    def steps(self, sold, waiting):
        """All steps that can be made, each with the sales and the parties behind it."""
        found = []
        offered = words_sales_behind(self.words, self.rows, sold)
        for size in sorted(set(waiting)):
            later = list(waiting)
            later.remove(size)
            sales = [sale for sale in offered if sale[2] == size]
            found += [(("sell",) + sale, tuple(sorted(sold + (sale,))), tuple(later)) for sale in sales]
            if not sales:
                found.append((("away", size), sold, tuple(later)))
        return found

    def aways(self, sold, waiting):
        """The set of the numbers of parties that are turned away."""
        key = (sold, waiting)
        if key not in self.known:
            self.known[key] = set() if waiting else {0}
            for step, after, later in self.steps(sold, waiting):
                self.known[key] |= {many + (step[0] == "away") for many in self.aways(after, later)}
        return self.known[key]

    def in_order(self, sold, order):
        """The set of the numbers of parties that are turned away in an order."""
        key = (sold, "order", order)
        if key not in self.known:
            self.known[key] = set() if order else {0}
            for step, after, later in self.steps(sold, order[:1]) if order else []:
                self.known[key] |= {many + (step[0] == "away") for many in self.in_order(after, order[1:])}
        return self.known[key]

    def fewest(self, waiting):
        """The fewest steps up to a party that is turned away, None if there is none."""
        layer = {((), waiting)}
        for many in range(1, len(waiting) + 1):
            found = [step for state in sorted(layer) for step in self.steps(*state)]
            if any(step[0] == "away" for step, after, later in found):
                return many
            layer = {(after, later) for step, after, later in found}
        return None

    def good(self, waiting):
        """The least order in which nobody is turned away, None if there is none."""
        for order in sorted(set(itertools.permutations(waiting))):
            if self.in_order((), order) == {0}:
                return list(order)
        return None


def some_counts(seed, many, most=4):
    """Rules told by dicts, each with rows of a plan and counts."""
    chance = random.Random(seed)
    found = []
    for words in some_rules(seed, many):
        sizes = sorted(set(words["sizes"]))
        chance.shuffle(sizes)
        counts = {size: chance.randint(0, 2) for size in sizes}
        while sum(counts.values()) > most:
            counts[max(counts, key=counts.get)] -= 1
        found.append((words, chance.choice(SMALL), counts))
    return found


class Examples(unittest.TestCase):
    """[90], the document's examples."""

    def test_examples(self):
        both = {2: 1, 3: 1}
        self.assertEqual([aways(LOOSE, PLAN, both), len(first_refusal(LOOSE, PLAN, both)), good_order(LOOSE, PLAN, both)],
                         [[0, 1], 2, None])
        self.assertIs(surely_seated(NEAT, PLAN, both), True)
        self.assertEqual(good_order(NEAT, PLAN, both), [2, 3])


class AllScripts(unittest.TestCase):
    """[90], against all scripts."""

    def check(self, words, rows, counts):
        rule, plan, right = made(words), Plan(rows), Words(words, rows)
        kept, waiting = copied(counts), tuple(parties_of(counts))
        found = sorted(right.aways((), waiting))
        self.assertTrue(same(aways(rule, plan, counts), found))
        self.assertIs(surely_seated(rule, plan, counts), found == [0])
        for many in range(-1, len(waiting) + 2):
            self.check_script(rule, plan, counts, right, many, many in found)
        self.check_refusal(rule, plan, counts, right)
        self.assertTrue(same(good_order(rule, plan, counts), right.good(waiting)))
        self.assertTrue(same(counts, kept))

    def check_script(self, rule, plan, counts, right, many, is_there):
        script = script_with(rule, plan, counts, many)
        if not is_there:
            self.assertIsNone(script)
            return
        self.follow(script, right, tuple(parties_of(counts)), ())
        self.assertEqual(len([step for step in script if step[0] == "away"]), many)
        self.assertIs(is_script(rule, plan, counts, script), True)

    def follow(self, script, right, waiting, stop):
        """Makes all steps of a script; behind it are left as many parties as stop tells, if it is a number."""
        self.assertIs(type(script), list)
        sold = ()
        for step in script:
            behind = [(after, later) for other, after, later in right.steps(sold, waiting) if same(other, step)]
            self.assertEqual(len(behind), 1)
            sold, waiting = behind[0]
        if stop == ():
            self.assertEqual(waiting, ())

    def check_refusal(self, rule, plan, counts, right):
        waiting = tuple(parties_of(counts))
        fewest = right.fewest(waiting)
        script = first_refusal(rule, plan, counts)
        if fewest is None:
            self.assertIsNone(script)
            self.assertIs(surely_seated(rule, plan, counts), True)
            return
        self.assertEqual(len(script), fewest)
        self.assertEqual([step[0] for step in script], ["sell"] * (fewest - 1) + ["away"])
        self.follow(script, right, waiting, None)

    def test_by_chance(self):
        for words, rows, counts in some_counts(901, 110):
            self.check(words, rows, counts)

    def test_more_parties(self):
        for words, rows, counts in some_counts(902, 14, 6):
            self.check(words, [[8]], counts)

    def test_stretches_are_not_their_turned_ones_with_an_offer(self):
        for words, rows, counts in (
                (told([1, 3, 4], {"sold": [2, 5]}, False, "side", 1), [[9]], {1: 2, 3: 2, 4: 1}),
                (told([2, 4], {"sold": [2], "wall": [4]}, False, "any", 2), [[10]], {2: 2, 4: 1}),
                (told([1, 2], {"pillar": [1, 3, 4], "sold": [2, 4, 5], "wall": [2]}, False, "side", 1), [[9]], {1: 2, 2: 1}),
                (told([1, 2], {"sold": [2, 3, 4]}, False, "any", 1), [[7]], {1: 2, 2: 2}),
                (told([2, 3, 5], {"pillar": [3, 4, 5], "wall": [2]}, False, "any", 1), [[4, 4]], {2: 2, 3: 2}),
                (told([1, 2, 3], {"pillar": [2], "sold": [2], "wall": [3, 4]}, True, "any", 1), [[5, 4]], {2: 1, 3: 2})):
            self.check(words, rows, counts)
            self.check(dict(words, offer=0), rows, counts)

    def test_refused_later_or_sooner_by_the_order(self):
        # A strict rule refuses the pair in three seats, but not in the two that a single leaves.
        self.check(told([1, 2], {"sold": [1], "wall": [1]}), [[3]], {1: 1, 2: 1})
        self.assertEqual(aways(Rule([1, 2], {"sold": [1], "wall": [1]}), Plan([[3]]), {1: 1, 2: 1}), [0, 1])
        self.assertEqual(good_order(Rule([1, 2], {"sold": [1], "wall": [1]}), Plan([[3]]), {1: 1, 2: 1}), [1, 2])

    def test_in_order(self):
        chance = random.Random(903)
        for words, rows, counts in some_counts(903, 60):
            right = Words(words, rows)
            for many in range(5):
                order = [chance.choice(words["sizes"]) for _ in range(many)]
                kept = list(order)
                found = sorted(right.in_order((), tuple(order)))
                self.assertTrue(same(aways_in_order(made(words), Plan(rows), order), found))
                self.assertEqual(order, kept)

    def test_six_in_order(self):
        for words, rows, counts in some_counts(904, 6):
            for size in words["sizes"]:
                right = Words(words, [[7]])
                found = sorted(right.in_order((), (size,) * 6))
                self.assertEqual(aways_in_order(made(words), Plan([[7]]), [size] * 6), found)

    def test_the_least_good_order(self):
        rule, plan = Rule([1, 2, 3]), Plan([[14]])
        right = [list(some) for some in sorted(set(itertools.permutations([1, 1, 2, 2, 3, 3])))
                 if aways_in_order(rule, plan, list(some)) == [0]]
        self.assertTrue(1 < len(right) < 90)
        self.assertEqual(good_order(rule, plan, {1: 2, 2: 2, 3: 2}), right[0])
        self.assertNotEqual(right[0], [1, 1, 2, 2, 3, 3])


class Few(unittest.TestCase):
    """[90], counts without parties."""

    def test_none(self):
        for counts in ({}, {2: 0}, {3: 0, 2: 0}):
            self.assertEqual(aways(LOOSE, PLAN, counts), [0])
            self.assertIs(surely_seated(LOOSE, PLAN, counts), True)
            self.assertEqual(script_with(LOOSE, PLAN, counts, 0), [])
            self.assertIsNone(script_with(LOOSE, PLAN, counts, 1))
            self.assertIsNone(script_with(LOOSE, PLAN, counts, -1))
            self.assertIsNone(first_refusal(LOOSE, PLAN, counts))
            self.assertEqual(good_order(LOOSE, PLAN, counts), [])
            self.assertIs(is_script(LOOSE, PLAN, counts, []), True)
            self.assertIs(is_script(LOOSE, PLAN, counts, [("sell", 0, 0, 2)]), False)
            self.assertIs(is_script(LOOSE, PLAN, counts, [("away", 2)]), False)
        self.assertEqual(aways_in_order(LOOSE, PLAN, []), [0])

    def test_zeros_mean_nothing(self):
        for words, rows, counts in some_counts(905, 30):
            less = {size: many for size, many in counts.items() if many}
            more = {size: counts.get(size, 0) for size in sorted(set(words["sizes"]), reverse=True)}
            answers = [self.all_of(made(words), Plan(rows), some) for some in (counts, less, more)]
            self.assertEqual(answers[0], answers[1])
            self.assertEqual(answers[0], answers[2])

    def all_of(self, rule, plan, counts):
        kept = list(counts.items())
        found = [aways(rule, plan, counts), surely_seated(rule, plan, counts), first_refusal(rule, plan, counts),
                 good_order(rule, plan, counts)] + [script_with(rule, plan, counts, many) for many in range(7)]
        self.assertEqual(list(counts.items()), kept)
        return found

    def test_the_order_of_keys_means_nothing(self):
        rule, plan = Rule([1, 2, 3], {"sold": [1]}), Plan([[4], [5]])
        answers = [self.all_of(rule, plan, {size: size % 2 + 1 for size in order})
                   for order in itertools.permutations([1, 2, 3])]
        self.assertTrue(all(some == answers[0] for some in answers))

    def test_more_parties_than_seats(self):
        self.assertEqual(aways(LOOSE, Plan([[1]]), {2: 2, 3: 2}), [4])
        self.assertEqual(first_refusal(LOOSE, Plan([[1]]), {2: 0, 3: 2}), [("away", 3)])
        self.assertEqual(script_with(LOOSE, Plan([[1]]), {2: 1}, 1), [("away", 2)])
        self.assertIs(surely_seated(LOOSE, Plan([[1]]), {2: 1}), False)


class IsScript(unittest.TestCase):
    """[90], is_script of right and of bent scripts."""

    both = {2: 1, 3: 1}

    def of(self, thing):
        return is_script(LOOSE, PLAN, self.both, thing)

    def test_scripts(self):
        for thing in ([("sell", 0, 0, 2), ("sell", 0, 2, 3)], [("sell", 0, 2, 3), ("sell", 0, 0, 2)],
                      [("sell", 0, 1, 2), ("away", 3)], [("sell", 0, 1, 3), ("away", 2)]):
            kept = copied(thing)
            self.assertIs(self.of(thing), True)
            self.assertEqual(thing, kept)

    def test_bent(self):
        for thing in ([], [("sell", 0, 0, 2)], [("sell", 0, 0, 2), ("sell", 0, 2, 3), ("away", 2)],
                      [("sell", 0, 0, 2), ("sell", 0, 2, 3), ("away", 3)],
                      [("sell", 0, 0, 2), ("sell", 0, 2, 2)], [("sell", 0, 0, 2), ("away", 3)],
                      [("away", 2), ("sell", 0, 0, 3)], [("sell", 0, 1, 2), ("sell", 0, 3, 3)],
                      [("sell", 0, 1, 2), ("away", 2)], [("sell", 0, 1, 2), ("away", 4)], [("sell", 1, 0, 2), ("away", 3)],
                      [("sell", 0, 4, 2), ("away", 3)], [("sell", 0, 0, 2), ("sell", 0, 1, 3)],
                      [["sell", 0, 0, 2], ("sell", 0, 2, 3)], [("sell", 0, 0, 2), ["sell", 0, 2, 3]],
                      (("sell", 0, 0, 2), ("sell", 0, 2, 3)), [("Sell", 0, 0, 2), ("sell", 0, 2, 3)],
                      [("sell", False, 0, 2), ("sell", 0, 2, 3)], [("sell", 0, False, 2), ("sell", 0, 2, 3)],
                      [("sell", 0, 0), ("sell", 0, 2, 3)], [("sell", 0, 0, 2, 2), ("sell", 0, 2, 3)],
                      [(0, 0, 2), ("sell", 0, 2, 3)], [("sell", 0, 1, 2), ("away", 3, 3)], [("sell", 0, 1, 2), ("away",)],
                      [("sell", 0, 1, 2), ("away", 0, 3)], [("sell", 0, 1, 2), ("sell", 3)], [("sell", 0, 1, 2), "away"],
                      [("sell", 0, 1, 2), ()], [("sell", 0, 0, 2), ("sell", 0, "2", 3)],
                      [("sell", 0, -1, 2), ("away", 3)], [("sell", 0, 1, 2), ("sell", 0, 0, 0)]):
            with self.subTest(thing=thing):
                self.assertIs(self.of(thing), False)

    def test_truths_for_numbers(self):
        rule, counts = Rule([1, 2]), {1: 1, 2: 1}
        self.assertIs(is_script(rule, Plan([[2]]), counts, [("sell", 0, 0, 2), ("away", 1)]), True)
        self.assertIs(is_script(rule, Plan([[2]]), counts, [("sell", 0, 0, 2), ("away", True)]), False)
        self.assertIs(is_script(rule, Plan([[3]]), counts, [("sell", 0, 1, 2), ("sell", 0, 0, 1)]), True)
        self.assertIs(is_script(rule, Plan([[3]]), counts, [("sell", 0, 1, 2), ("sell", 0, 0, True)]), False)
        self.assertIs(is_script(rule, Plan([[3]]), counts, [("sell", 0, True, 2), ("sell", 0, 0, 1)]), False)

    def test_any_values(self):
        for thing in any_values():
            self.assertIs(self.of(thing), False)
            self.assertIs(self.of([thing, ("sell", 0, 2, 3)]), False)
            self.assertIs(self.of([("sell", 0, 1, 2), thing]), False)
            self.assertIs(self.of([("sell", 0, 1, 2), ("away", 3), thing]), False)
            self.assertIs(self.of([("sell", 0, 1, 2), ("away", thing)]), same(thing, 3))
            self.assertIs(self.of([("sell", 0, 1, 2), (thing, 3)]), False)
            for at in range(1, 4):
                step = ["sell", 0, 1, 2]
                step[at] = thing
                truth = same(thing, ("sell", 0, 1, 2)[at]) or at == 2 and same(thing, 2)
                self.assertIs(self.of([tuple(step), ("away", 3)]), truth)

    def test_all_lists_of_few_steps(self):
        for words, rows, counts in some_counts(906, 16, 2):
            right, waiting = Words(words, rows), tuple(parties_of(counts))
            some = [("sell", row, seat, size) for row in range(len(rows)) for seat in range(3) for size in words["sizes"]]
            some += [("away", size) for size in words["sizes"]]
            for script in [()] + [(one,) for one in some] + list(itertools.product(some, some)):
                sold, left, good = (), waiting, True
                for step in script:
                    behind = [(after, later) for other, after, later in right.steps(sold, left) if other == step]
                    good = good and bool(behind)
                    if not good:
                        break
                    sold, left = behind[0]
                self.assertIs(is_script(made(words), Plan(rows), counts, list(script)), good and not left)


class Time(unittest.TestCase):
    """[90], the greatest counts."""

    def test_two_of_each_of_three_sizes_in_fourteen_seats(self):
        first = time.process_time()
        for sizes in ([1, 2, 3], [1, 2, 4], [2, 3, 4]):
            for rows in ([[14]], [[7, 7]], [[3, 3, 2], [3, 3]]):
                for rule in (Rule(sizes), Rule(sizes, {"sold": [1]})):
                    plan, counts = Plan(rows), {size: 2 for size in sizes}
                    found = aways(rule, plan, counts)
                    for many in found:
                        script = script_with(rule, plan, counts, many)
                        self.assertIs(is_script(rule, plan, counts, script), True)
                        order = [step[-1] for step in script]
                        self.assertIn(many, aways_in_order(rule, plan, order))
                    refusal = first_refusal(rule, plan, counts)
                    self.assertIs(surely_seated(rule, plan, counts), refusal is None)
                    order = good_order(rule, plan, counts)
                    if order is not None:
                        self.assertEqual(sorted(order), sorted(sizes * 2))
                        self.assertEqual(aways_in_order(rule, plan, order), [0])
        self.assertLess(time.process_time() - first, 60)

    def test_answers_are_new(self):
        both = {2: 1, 3: 1}
        for ask in (lambda: aways(LOOSE, PLAN, both), lambda: script_with(LOOSE, PLAN, both, 1),
                    lambda: first_refusal(LOOSE, PLAN, both), lambda: good_order(NEAT, PLAN, both),
                    lambda: aways_in_order(LOOSE, PLAN, [3, 2])):
            first = ask()
            kept = list(first)
            self.assertTrue(kept)
            first.clear()
            self.assertEqual(ask(), kept)


if __name__ == "__main__":
    unittest.main()
