import random
import time
import unittest

from loneseats.errors import BadStep, NoSize
from loneseats.returns import breaks, lone_script, most_free, script_to, state_behind, states, steps_at
from loneseats.rules import Rule
from tests.plain import (any_values, copied, made, same, some_rules, told, words_free, words_refuses, words_sales_then,
                         words_is_stuck)

NEAT, SIDES = Rule([2, 3], {"sold": [1], "wall": [1]}), Rule([2, 3], where="side")


def words_nexts(words, length, state, returned=True):
    """All steps that can be made in a state, each with the state behind it."""
    found = []
    for seat, size in words_sales_then(words, ("wall", length, "wall"), state):
        found.append((("sell", seat, size), tuple(sorted(state + ((seat, size),)))))
    if returned:
        found += [(("back", party[0]), tuple(other for other in state if other != party)) for party in state]
    return sorted(found)


def words_fewest(words, length, returned=True):
    """The dict from all states that come to the fewest steps that lead there."""
    found = {(): 0}
    waiting = [()]
    for state in waiting:
        for step, after in words_nexts(words, length, state, returned):
            if after not in found:
                found[after] = found[state] + 1
                waiting.append(after)
    return found


def words_is_whole(words, length, state):
    """Whether all stretches are stuck in a state."""
    return all(words_is_stuck(words, part) for seat, part in words_free(("wall", length, "wall"), state))


def words_most_free(words, length, returned=True):
    """The greatest number of free seats where all stretches are stuck."""
    return max(length - sum(size for seat, size in state) for state in words_fewest(words, length, returned)
               if words_is_whole(words, length, state))


def words_is_lone(words, length, state, size):
    """Whether all stretches refuse a size though one has so many seats."""
    free = [part for seat, part in words_free(("wall", length, "wall"), state)]
    return all(words_refuses(words, part, size) for part in free) and any(part[1] >= size for part in free)


class Examples(unittest.TestCase):
    """[91], the document's examples."""

    def test_examples(self):
        self.assertTrue(same(states(NEAT, 3), [(), ((0, 3),)]))
        self.assertTrue(same([most_free(SIDES, 6), most_free(SIDES, 6, returned=False), breaks(SIDES)[0]], [2, 1, 6]))


class Steps(unittest.TestCase):
    """[91], steps_at and state_behind."""

    def test_all_states_of_short_rows(self):
        for words in some_rules(911, 16):
            for length in (0, 1, 4, 5):
                for state in words_fewest(words, length):
                    found = steps_at(made(words), length, state)
                    self.assertTrue(same(found, [step for step, after in words_nexts(words, length, state)]))

    def test_states_that_do_not_come(self):
        chance = random.Random(912)
        for words in some_rules(912, 20):
            for _ in range(10):
                length, seat, state = 9, 0, ()
                while seat < 5:
                    seat += chance.randint(0, 3)
                    size = chance.choice(words["sizes"])
                    if seat + size <= length:
                        state += ((seat, size),)
                    seat += size
                found = [step for step, after in words_nexts(words, length, state)]
                self.assertTrue(same(steps_at(made(words), length, state), found))

    def test_ascending(self):
        self.assertTrue(same(steps_at(Rule([1, 2]), 4, ((1, 1),)),
                             [("back", 1), ("sell", 0, 1), ("sell", 2, 1), ("sell", 2, 2), ("sell", 3, 1)]))
        self.assertEqual(steps_at(Rule([1]), 0, ()), [])

    def test_one_stretch_with_those_beside_them(self):
        rule = Rule([1, 3])
        script = [("sell", 0, 1), ("sell", 1, 1), ("sell", 2, 1)]
        self.assertEqual(state_behind(rule, 3, script), ((0, 1), (1, 1), (2, 1)))
        self.assertEqual(state_behind(rule, 3, script + [("back", 1), ("back", 0), ("back", 2)]), ())
        self.assertEqual(state_behind(rule, 3, script + [("back", 1), ("back", 0), ("back", 2), ("sell", 0, 3)]), ((0, 3),))

    def test_scripts_by_chance(self):
        chance = random.Random(913)
        wrong = 0
        for words in some_rules(913, 60):
            length, state, script, bad = chance.randint(0, 9), (), [], None
            for at in range(12):
                nexts = dict(words_nexts(words, length, state))
                step = chance.choice([("sell", chance.randint(0, 9), chance.randint(1, 5)), ("back", chance.randint(0, 9))])
                if nexts and chance.random() < 0.93:
                    step = chance.choice(sorted(nexts))
                script.append(step)
                if step not in nexts and bad is None:
                    bad = at
                state = nexts.get(step, state)
            kept = copied(script)
            if bad is None:
                self.assertTrue(same(state_behind(made(words), length, script), state))
            else:
                wrong += 1
                with self.assertRaises(BadStep) as caught:
                    state_behind(made(words), length, script)
                self.assertTrue(same(caught.exception.at, bad))
            self.assertTrue(same(script, kept))
        self.assertTrue(10 < wrong < 50)

    def test_bad_steps(self):
        rule = Rule([1, 2])
        self.assertEqual(state_behind(rule, 4, []), ())
        some = [([("back", 0)], 0), ([("sell", 0, 2), ("back", 1)], 1), ([("sell", 0, 2), ("sell", 1, 1)], 1),
                ([("sell", 3, 2)], 0), ([("sell", 0, 3)], 0), ([("sell", 0, 2), ("back", 0), ("back", 0)], 2),
                ([("sell", 0, 2), ["back", 0]], 1), ([["sell", 0, 2]], 0), ([("sell", 0, 2, 0)], 0), ([("sell", 0)], 0),
                ([("sell",)], 0), ([("back",)], 0), ([("sell", 0, 2), ("back", 0, 2)], 1), ([("Sell", 0, 2)], 0),
                ([("sell", 0, 2), ("back", False)], 1), ([("sell", False, 2)], 0), ([("sell", 0, True)], 0),
                ([("sell", -1, 2)], 0), ([("sell", 0, 0)], 0), ([("sell", "0", 2)], 0), ([("away", 2)], 0),
                ([("sell", 1, 2), ("back", True)], 1), ([(0, 2)], 0), (["back"], 0), ([()], 0)]
        for script, at in some:
            with self.assertRaises(BadStep) as caught:
                state_behind(rule, 4, script)
            self.assertTrue(same(caught.exception.at, at), script)

    def test_any_values(self):
        for thing in any_values():
            scripts = [([thing], 0), ([("sell", 0, 2), thing], 1), ([thing, None], 0)]
            if not same(thing, []):
                if not isinstance(thing, list):
                    scripts.append((thing, -1))
                else:
                    scripts.append((thing, 0))
            if not same(thing, 0):
                scripts += [([("sell", 0, 2), ("back", thing)], 1)]
            if not (same(thing, 1) or same(thing, 2)):
                scripts += [([("sell", 0, thing)], 0)]
            if not (same(thing, 0) or same(thing, 1) or same(thing, 2)):
                scripts += [([("sell", thing, 2)], 0)]
            scripts += [([(thing, 0, 2)], 0), ([("sell", 0, 2), (thing, 0)], 1), ([("sell", 0, 2, thing)], 0)]
            for script, at in scripts:
                with self.assertRaises(BadStep) as caught:
                    state_behind(Rule([1, 2]), 4, script)
                self.assertTrue(same(caught.exception.at, at), script)

    def test_long_scripts(self):
        script = [("sell", 0, 1), ("back", 0)] * 2000
        self.assertEqual(state_behind(Rule([1, 2]), 9, script), ())
        self.assertEqual(state_behind(Rule([1, 2]), 9, script + [("sell", 8, 1)]), ((8, 1),))


class States(unittest.TestCase):
    """[91], states, script_to and most_free."""

    def test_all_scripts_of_short_rows(self):
        for words in some_rules(914, 24):
            rule = made(words)
            for length in range(7):
                for returned in (True, False):
                    fewest = words_fewest(words, length, returned)
                    self.assertTrue(same(states(rule, length, returned=returned), sorted(fewest)))
                    most = words_most_free(words, length, returned)
                    self.assertTrue(same(most_free(rule, length, returned=returned), most))
                    if returned:
                        self.assertEqual(states(rule, length), sorted(fewest))
                        self.assertEqual(most_free(rule, length), most)

    def test_shortest_scripts(self):
        chance = random.Random(915)
        for words in some_rules(915, 16):
            length = chance.choice([4, 6, 7])
            fewest = words_fewest(words, length)
            for state in chance.sample(sorted(fewest), min(len(fewest), 25)):
                script = script_to(made(words), length, state)
                self.assertTrue(type(script) is list and all(type(step) is tuple for step in script))
                self.assertEqual(len(script), fewest[state])
                self.assertEqual(state_behind(made(words), length, script), state)
                self.check_steps(words, length, script)

    def check_steps(self, words, length, script):
        state = ()
        for step in script:
            nexts = dict(words_nexts(words, length, state))
            self.assertIn(step, nexts)
            state = nexts[step]

    def test_what_comes_with_returns_alone(self):
        rule = SIDES
        some = [state for state in states(rule, 6) if state not in states(rule, 6, returned=False)]
        self.assertTrue(some)
        for state in some:
            script = script_to(rule, 6, state)
            self.assertIn("back", [step[0] for step in script])
            self.assertEqual(state_behind(rule, 6, script), state)

    def test_what_does_not_come(self):
        rule = SIDES.with_offer(1)
        for state in (((1, 2),), ((1, 3),), ((0, 2), (1, 2)), ((0, 1),), ((0, 3), (3, 3)), ((4, 2),), ((5, 2),),
                      ((2, 3), (0, 2)), ((0, 2), (0, 2)), ((0, 2), (0, 3)), ((0, 2), (2, 2), (4, 2))):
            self.assertIsNone(script_to(rule, 5, state))
        self.assertEqual(script_to(rule, 5, ()), [])
        self.assertEqual(script_to(rule, 5, ((0, 2),)), [("sell", 0, 2)])
        self.assertEqual(script_to(rule, 5, ((3, 2),)), [("sell", 0, 3), ("sell", 3, 2), ("back", 0)])
        self.assertIsNone(script_to(rule, 5, [(0, 2)]))
        self.assertIsNone(script_to(rule, 5, ([0, 2],)))
        self.assertIsNone(script_to(rule, 5, ((False, 2),)))
        self.assertIsNone(script_to(Rule([1]), 2, ((0, True),)))
        self.assertIsNone(script_to(Rule([1]), 2, ((True, 1),)))
        self.assertEqual(script_to(Rule([1]), 2, ((1, 1),)), [("sell", 1, 1)])

    def test_any_states(self):
        rule = SIDES.with_offer(1)
        for thing in any_values():
            self.assertTrue(script_to(rule, 5, thing) == [] if same(thing, ()) else script_to(rule, 5, thing) is None)
            self.assertIsNone(script_to(rule, 5, (thing,)))
            self.assertIsNone(script_to(rule, 5, ((0, 2), thing)))
            truth = same(thing, 0) or same(thing, 2) or same(thing, 3)
            self.assertIs(script_to(rule, 5, ((thing, 2),)) is not None, truth)
            self.assertIs(script_to(rule, 5, ((0, thing),)) is not None, same(thing, 2) or same(thing, 3))

    def test_no_seats(self):
        for words in some_rules(916, 8):
            for returned in (True, False):
                self.assertEqual(states(made(words), 0, returned=returned), [()])
                self.assertEqual(most_free(made(words), 0, returned=returned), 0)


class Breaks(unittest.TestCase):
    """[91], breaks."""

    def test_by_most_free(self):
        seen = []
        for words in some_rules(917, 40):
            rule = made(words)
            found = [length for length in range(10) if most_free(rule, length) > most_free(rule, length, returned=False)]
            self.assertTrue(same(breaks(rule), found))
            seen.append(len(found))
        self.assertTrue(seen.count(0) > 3 and len(seen) - seen.count(0) > 3)

    def test_by_words(self):
        for words in (told([2, 3], where="side"), told([2], {"sold": [1]}), told([1, 2, 4], {"wall": [1]}, False, "any", 1),
                      told([3, 5], {"sold": [2]}, True)):
            found = [length for length in range(10)
                     if words_most_free(words, length) > words_most_free(words, length, False)]
            self.assertEqual(breaks(made(words)), found)

    def test_rows_of_nine_seats_too(self):
        self.assertEqual(breaks(SIDES), [6, 7, 8, 9])


class Lone(unittest.TestCase):
    """[91], lone_script."""

    def check(self, words, length, size, returned):
        rule = made(words)
        fewest = words_fewest(words, length, returned)
        lone = [many for state, many in fewest.items() if words_is_lone(words, length, state, size)]
        script = lone_script(rule, length, size, returned=returned)
        if returned:
            again = lone_script(rule, length, size)
            self.assertEqual(again, script)
        if not lone:
            self.assertIsNone(script)
            return False
        self.assertIs(type(script), list)
        self.assertEqual(len(script), min(lone))
        self.assertTrue(words_is_lone(words, length, state_behind(rule, length, script), size))
        self.assertTrue(returned or all(step[0] == "sell" for step in script))
        return True

    def test_all_scripts_of_short_rows(self):
        seen = []
        for words in some_rules(918, 30):
            for length in (1, 3, 5, 6):
                for size in sorted(set(words["sizes"])):
                    both = [self.check(words, length, size, returned) for returned in (False, True)]
                    seen.append(both)
        self.assertGreater(seen.count([True, True]), 15)
        self.assertGreater(seen.count([False, False]), 15)

    def test_with_returns_alone(self):
        words = told([2, 3], where="side")
        found = [(length, size) for length in range(10) for size in (2, 3)
                 if lone_script(SIDES, length, size, returned=False) is None and lone_script(SIDES, length, size)]
        for length, size in found:
            if length <= 7:
                self.check(words, length, size, True)
                self.assertIn("back", [step[0] for step in lone_script(SIDES, length, size)])

    def test_fewer_steps_with_returns_are_told(self):
        for words in some_rules(919, 12):
            for size in set(words["sizes"]):
                one, other = (lone_script(made(words), 7, size, returned=returned) for returned in (True, False))
                self.assertTrue(other is None or len(one) <= len(other))

    def test_no_steps_at_all(self):
        rule = Rule([2], {"wall": [1]})
        self.assertEqual(lone_script(rule, 3, 2), [])
        self.assertEqual(lone_script(rule, 3, 2, returned=False), [])

    def test_no_size(self):
        for thing in any_values():
            if not (same(thing, 2) or same(thing, 3)):
                for given in ({}, {"returned": True}, {"returned": False}):
                    with self.assertRaises(NoSize) as caught:
                        lone_script(SIDES, 9, thing, **given)
                    self.assertIs(caught.exception.size, thing)


class Time(unittest.TestCase):
    """[91], rows of nine seats, and what is returned."""

    def test_rows_of_nine_seats(self):
        first = time.process_time()
        for rule in (Rule([1, 2, 3, 4, 5]), Rule([1, 2, 3, 4, 5], {"sold": [1], "wall": [2]}, soft=True), Rule([1])):
            found = states(rule, 9)
            self.assertGreater(len(found), 100)
            self.assertEqual(len(script_to(rule, 9, found[-1])), len(found[-1]))
            self.assertEqual(most_free(rule, 9), 0)
            self.assertEqual(breaks(rule), [])
            lone_script(rule, 9, 1)
        self.assertLess(time.process_time() - first, 30)

    def test_answers_are_new(self):
        for ask in (lambda: steps_at(SIDES, 6, ((0, 2),)), lambda: states(SIDES, 6),
                    lambda: script_to(SIDES, 6, ((0, 2), (4, 2))), lambda: breaks(SIDES),
                    lambda: lone_script(Rule([2], {"sold": [1]}), 7, 2)):
            first = ask()
            kept = list(first)
            self.assertTrue(kept)
            first.clear()
            self.assertEqual(ask(), kept)


if __name__ == "__main__":
    unittest.main()
