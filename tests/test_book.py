import random
import unittest

from loneseats.book import Book
from loneseats.errors import BadEdit, Nothing, Wrong
from loneseats.rules import Rule
from loneseats.worths import Worth
from tests.plain import ENDS, any_values, copied, made, same, some_rules, worth_of, some_worth

RULE, WORTH = Rule([2, 3], {"sold": [1]}), Worth({2: 3, 3: 0, 4: 1}, 1, until=2)
SOME = (("sizes", [3, 1, 3]), ("bad", "wall", (2, 1, 2)), ("soft", True), ("where", "side"), ("offer", 2),
        ("price", 2, 9), ("free", 4), ("until", 5))
TOLD = (("sizes", (1, 3)), ("bad", "wall", (1, 2)), ("soft", True), ("where", "side"), ("offer", 2), ("price", 2, 9),
        ("free", 4), ("until", 5))


def words_edited(words, parts, edit):
    """What tells a rule and a worth behind an edit, told by a dict and by (prices, free, until)."""
    words, (prices, free, until) = copied(words), copied(parts)
    if edit[0] == "bad":
        words["bad"][edit[1]] = list(edit[2])
    elif edit[0] == "price":
        prices[edit[1]] = edit[2]
    elif edit[0] == "free":
        free = edit[1]
    elif edit[0] == "until":
        until = edit[1]
    else:
        words[edit[0]] = edit[1]
    return words, (prices, free, until)


def some_edit(chance):
    """Any right edit."""
    return chance.choice([
        ("sizes", [chance.randint(1, 5) for _ in range(chance.randint(1, 4))]),
        ("bad", chance.choice(ENDS), tuple(chance.randint(1, 5) for _ in range(chance.randint(0, 4)))),
        ("soft", chance.random() < 0.5), ("where", chance.choice(["any", "side"])), ("offer", chance.randint(0, 5)),
        ("price", chance.randint(1, 5), chance.randint(0, 9)), ("free", chance.randint(0, 9)),
        ("until", chance.randint(0, 5))])


def told_edit(edit):
    """An edit as a log tells it."""
    return tuple(tuple(sorted(set(part))) if isinstance(part, (list, tuple)) else part for part in edit)


def what_again(book):
    """What can be done again, in order, asked of a copy."""
    other, found = book.copied(), []
    while True:
        try:
            found.append(other.again())
        except Nothing:
            return found


class Edits(unittest.TestCase):
    """[103], do."""

    def test_each_edit(self):
        right = [RULE.with_sizes([1, 3]), RULE.with_bad("wall", [1, 2]), RULE.with_soft(True), RULE.with_where("side"),
                 RULE.with_offer(2)] + [RULE] * 3
        worths = [WORTH] * 5 + [Worth({2: 9, 4: 1}, 1, until=2), Worth({2: 3, 4: 1}, 4, until=2),
                                Worth({2: 3, 4: 1}, 1, until=5)]
        for edit, told, rule, worth in zip(SOME, TOLD, right, worths):
            book, kept = Book(RULE, WORTH), copied(edit)
            self.assertIsNone(book.do(edit))
            self.assertTrue(same(edit, kept))
            self.assertTrue(book.rule == rule and book.worth == worth)
            self.assertTrue(same(book.log(), [told]))
        self.assertTrue(RULE == Rule([2, 3], {"sold": [1]}) and WORTH == Worth({2: 3, 4: 1}, 1, until=2))

    def test_edges(self):
        book = Book(RULE, WORTH)
        for edit in (("sizes", (5,)), ("sizes", [1, 2, 3, 4, 5]), ("bad", "sold", []), ("bad", "pillar", ()),
                     ("bad", "sold", [5, 4, 3, 2, 1]), ("soft", False), ("where", "any"), ("offer", 0), ("offer", 5),
                     ("price", 1, 0), ("price", 5, 9), ("free", 0), ("free", 9), ("until", 0), ("until", 1), ("until", 5)):
            book.do(edit)
            self.assertTrue(same(book.log()[-1], told_edit(edit)))
        self.assertEqual(len(book), 16)
        self.assertTrue(book.rule == Rule([1, 2, 3, 4, 5], {"sold": [1, 2, 3, 4, 5]}, offer=5))
        self.assertTrue(book.worth == Worth({2: 3, 4: 1, 5: 9}, 9, until=5))

    def test_edits_that_change_nothing_stand_too(self):
        book = Book(RULE, WORTH)
        for edit in (("sizes", [2, 3]), ("soft", False), ("price", 3, 0), ("until", 2), ("until", 2)):
            book.do(edit)
        self.assertEqual(len(book), 5)
        self.assertTrue(book.rule == RULE and book.worth == WORTH)

    def test_a_price_of_0(self):
        book = Book(RULE, WORTH)
        book.do(("price", 2, 0))
        self.assertEqual(book.worth.prices(), {4: 1})

    def test_a_worth_that_is_none_of_the_rule(self):
        book = Book(Rule([2]), Worth(until=5))
        book.do(("until", 3))
        book.do(("sizes", [4]))
        self.assertTrue(book.worth.until == 3 and book.rule.sizes == (4,))


class Wrongs(unittest.TestCase):
    """[103], BadEdit(), Wrong(0), Wrong(1), and that nothing has changed then."""

    def refused(self, thing):
        book = Book(RULE, WORTH)
        book.do(("free", 2))
        book.do(("offer", 1))
        book.back()
        with self.assertRaises(BadEdit, msg=thing):
            book.do(thing)
        self.assertTrue(same(book.log(), [("free", 2)]))
        self.assertTrue(book.rule == RULE and book.worth == Worth({2: 3, 4: 1}, 2, until=2))
        self.assertTrue(same(what_again(book), [("offer", 1)]))

    def test_bent_in_each_place(self):
        for thing in (("sizes", []), ("sizes", ()), ("sizes", [0]), ("sizes", [6]), ("sizes", [True]), ("sizes", 2),
                      ("sizes", None), ("sizes", {2: 1}), ("sizes", "2"), ("sizes", [2], [3]), ("sizes",),
                      ("bad", "Wall", [1]), ("bad", None, [1]), ("bad", "wall", [0]), ("bad", "wall", [6]),
                      ("bad", "wall", 1), ("bad", "wall", None), ("bad", "wall"), ("bad", [1]), ("bad", "wall", [True]),
                      ("bad", {"wall": [1]}), ("bad", "wall", [1], 1), ("soft", 1), ("soft", 0), ("soft", None),
                      ("soft", "soft"), ("soft",), ("soft", True, True), ("where", "Any"), ("where", None), ("where", ""),
                      ("where", "wall"), ("where", True), ("where",), ("offer", 6), ("offer", -1), ("offer", True),
                      ("offer", None), ("offer", "1"), ("offer",), ("price", 0, 1), ("price", 6, 1), ("price", True, 1),
                      ("price", 2, 10), ("price", 2, -1), ("price", 2, True), ("price", 2), ("price", {2: 1}),
                      ("price", [2], 1), ("price", 2, None), ("price", 2, 1, 1), ("free", 10), ("free", -1),
                      ("free", False), ("free",), ("free", None), ("until", 6), ("until", -1), ("until", True),
                      ("until", False), ("until",), ("until", None), ("until", 2, 2), ("Sizes", [2]), ("pillar", [1]),
                      ("prices", {2: 1}), ("rule", RULE), ("worth", WORTH), ("back",), (), ("",), (None, 1), (0, 1)):
            self.refused(thing)

    def test_lists_for_tuples(self):
        for edit in SOME:
            self.refused(list(edit))
            self.refused((edit,))
            self.refused([edit])

    def test_any_values(self):
        for thing in any_values():
            self.refused(thing)
            self.refused((thing, 1))
            self.refused((thing, "wall", [1]))
            self.refused((thing, [2], [2]))
            self.refused((thing, [2]))
            self.refused((thing,))
            for word, is_right in (("sizes", isinstance(thing, (list, tuple)) and same(list(thing), [2])),
                                   ("soft", isinstance(thing, bool)), ("where", same(thing, "any") or same(thing, "side")),
                                   ("offer", type(thing) is int and 0 <= thing <= 5),
                                   ("free", type(thing) is int and 0 <= thing <= 9),
                                   ("until", type(thing) is int and 0 <= thing <= 5)):
                if word == "sizes" and isinstance(thing, (list, tuple)) and thing:
                    is_right = all(type(part) is int and 1 <= part <= 5 for part in thing)
                if not is_right:
                    self.refused((word, thing))
                else:
                    book = Book(RULE, WORTH)
                    book.do((word, thing))
                    self.assertEqual(len(book), 1)
            if not (type(thing) is int and 1 <= thing <= 5):
                self.refused(("price", thing, 1))
            if not (type(thing) is int and 0 <= thing <= 9):
                self.refused(("price", 2, thing))
            if not (isinstance(thing, str) and thing in ENDS):
                self.refused(("bad", thing, [1]))
            if not (isinstance(thing, (list, tuple)) and all(type(part) is int and 1 <= part <= 5 for part in thing)):
                self.refused(("bad", "wall", thing))

    def test_wrong(self):
        for thing in any_values() + [Book(RULE, WORTH)]:
            for args, place in (((thing, WORTH), 0), ((thing, thing), 0), ((RULE, thing), 1), ((WORTH, RULE), 0),
                                ((RULE, RULE), 1)):
                with self.assertRaises(Wrong) as caught:
                    Book(*args)
                self.assertTrue(same(caught.exception.place, place))


class Led(unittest.TestCase):
    """[103], back, again, log and copies."""

    def check(self, book, words, parts, log, undone):
        self.assertTrue(book.rule == made(words) and book.worth == worth_of(parts))
        self.assertTrue(same(book.log(), log))
        self.assertTrue(same([edit for edit in book], log))
        self.assertTrue(same(list(book), log))
        self.assertEqual(len(book), len(log))
        self.assertTrue(same(what_again(book), list(reversed(undone))))

    def test_by_chance(self):
        chance = random.Random(1031)
        for words in some_rules(1031, 40):
            parts = some_worth(chance, [1, 4])
            book, states, log, undone = Book(made(words), worth_of(parts)), [(words, parts)], [], []
            for _ in range(24):
                deed = chance.choice(["do", "do", "back", "back", "again", "wrong", "copy"])
                if deed == "do":
                    edit = some_edit(chance)
                    self.assertIsNone(book.do(edit))
                    log.append(told_edit(edit))
                    states.append(words_edited(*states[-1], edit))
                    undone = []
                elif deed == "back" and log:
                    self.assertTrue(same(book.back(), log[-1]))
                    undone.append((log.pop(), states.pop()))
                elif deed == "again" and undone:
                    self.assertTrue(same(book.again(), undone[-1][0]))
                    edit, state = undone.pop()
                    log.append(edit)
                    states.append(state)
                elif deed in ("back", "again"):
                    with self.assertRaises(Nothing):
                        book.back() if deed == "back" else book.again()
                elif deed == "wrong":
                    with self.assertRaises(BadEdit):
                        book.do(chance.choice([("offer", 6), ("free",), None, ("bad", "wall", [9])]))
                else:
                    book = book.copied()
                self.check(book, *states[-1], log, [edit for edit, state in undone])

    def test_nothing_at_both_ends(self):
        book = Book(RULE, WORTH)
        for ask in (book.back, book.again):
            self.assertRaises(Nothing, ask)
        book.do(("free", 2))
        self.assertRaises(Nothing, book.again)
        self.assertEqual(book.back(), ("free", 2))
        self.assertRaises(Nothing, book.back)
        self.assertEqual(book.again(), ("free", 2))
        self.assertRaises(Nothing, book.again)
        self.assertEqual(book.log(), [("free", 2)])

    def test_a_new_edit_forgets_those_undone(self):
        book = Book(RULE, WORTH)
        for edit in SOME:
            book.do(edit)
        for edit in reversed(TOLD[3:]):
            self.assertTrue(same(book.back(), edit))
        book.do(("free", 8))
        self.assertRaises(Nothing, book.again)
        self.assertEqual(book.log(), list(TOLD[:3]) + [("free", 8)])

    def test_what_is_passed_may_be_changed_behind(self):
        sizes, lengths = [3, 2], [5, 1]
        book = Book(RULE, WORTH)
        book.do(("sizes", sizes))
        book.do(("bad", "wall", lengths))
        sizes.clear()
        lengths.append(2)
        self.assertTrue(same(book.log(), [("sizes", (2, 3)), ("bad", "wall", (1, 5))]))
        self.assertTrue(book.rule == Rule([2, 3], {"sold": [1], "wall": [1, 5]}))
        book.back()
        book.back()
        self.assertTrue(same(book.again(), ("sizes", (2, 3))))

    def test_what_is_told_may_be_changed(self):
        book = Book(RULE, WORTH)
        book.do(("free", 2))
        log = book.log()
        log.clear()
        self.assertEqual(book.log(), [("free", 2)])
        self.assertEqual(len(book), 1)

    def test_copies(self):
        book = Book(RULE, WORTH)
        for edit in SOME:
            book.do(edit)
        book.back()
        book.back()
        other = book.copied()
        self.assertTrue(other == book and type(other) is Book)
        self.assertTrue(other.rule == book.rule and other.worth == book.worth)
        self.assertEqual(other.again(), TOLD[6])
        self.assertEqual([len(book), len(other)], [6, 7])
        self.assertTrue(other != book)
        self.assertEqual(book.again(), TOLD[6])
        self.assertEqual(book.again(), TOLD[7])
        other.do(("free", 1))
        self.assertRaises(Nothing, other.again)
        for _ in range(8):
            book.back()
        self.assertTrue(book.rule == RULE and book.worth == WORTH)
        self.assertEqual(len(other), 8)


class Equal(unittest.TestCase):
    """[103], == and !=."""

    def test_first_rules_first_worths_and_logs(self):
        one, other = Book(RULE, WORTH), Book(Rule((3, 2), {"sold": (1,), "wall": []}), Worth({4: 1, 2: 3}, 1, until=2))
        self.assertTrue(one == other and not one != other)
        self.assertTrue(one != Book(RULE.with_soft(True), WORTH) and not one == Book(RULE.with_soft(True), WORTH))
        self.assertTrue(one != Book(RULE, Worth({2: 3, 4: 1}, 1)) and not one == Book(RULE, Worth()))
        one.do(("sizes", [3, 2, 2]))
        self.assertTrue(one != other and not one == other)
        other.do(("sizes", (2, 3)))
        self.assertTrue(one == other and not one != other)
        one.do(("free", 1))
        other.do(("free", 2))
        self.assertTrue(one != other)
        other.back()
        other.do(("free", 1))
        self.assertTrue(one == other)

    def test_the_same_now_is_not_enough(self):
        one, other = Book(RULE, WORTH), Book(RULE.with_soft(True), WORTH)
        one.do(("soft", True))
        self.assertTrue(one.rule == other.rule and one != other)
        other.do(("soft", True))
        self.assertTrue(one.rule == other.rule and one.log() == other.log() and one != other)
        one, other = Book(RULE, WORTH), Book(RULE, Worth({2: 3, 4: 1}, 5, until=2))
        one.do(("free", 3))
        other.do(("free", 3))
        self.assertTrue(one.worth == other.worth and one.log() == other.log() and one != other)

    def test_what_was_undone_does_not_matter(self):
        one, other = Book(RULE, WORTH), Book(RULE, WORTH)
        one.do(("free", 3))
        one.back()
        self.assertTrue(one == other and not one != other)

    def test_other_values(self):
        book = Book(RULE, WORTH)
        for thing in any_values() + [RULE, WORTH, (RULE, WORTH)]:
            if type(thing).__name__ != "Same":
                self.assertTrue(book != thing and not book == thing)


if __name__ == "__main__":
    unittest.main()
