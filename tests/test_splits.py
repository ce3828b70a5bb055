import unittest

from loneseats.rules import Rule
from loneseats.splits import Splits, possible_befores
from tests.plain import PAIRS, made, same, some_rules, words_is_bad, words_let, words_offered, words_possible

EVERY = [1, 2, 3, 4, 5]


class ByWords(unittest.TestCase):
    """Beneath [31]: the choices of a size, by how many seats the party leaves free."""

    def check(self, words, left, right, rest):
        splits, size = Splits(made(words), left, right), words["sizes"][0]
        stretch = (left, rest + size, right)
        found = words_offered(words, stretch, size)
        self.assertTrue(same(possible_befores(made(words), rest), words_possible(words, stretch, size)))
        self.assertTrue(same(splits.let(rest), words_let(words, stretch, size)))
        self.assertTrue(same(splits.offered(rest), found))
        for before in range(rest + 2):
            self.assertIs(splits.has(rest, before), before in found)
            self.assertIs(splits.is_bad(rest, before), words_is_bad(words, stretch, size, before))
        for width in (6, 7, 11):
            self.check_outer(words, splits, rest, width, found)

    def check_outer(self, words, splits, rest, width, found):
        inner = [before for before in range(width, rest - width + 1)]
        is_wide = splits.is_wide(rest, width)
        if is_wide:
            self.assertTrue(inner and set(inner) <= set(found))
            self.assertTrue(same(splits.outer(rest, width), [before for before in found if before not in inner]))
        else:
            self.assertTrue(same(splits.outer(rest, width), found))
        self.assertIs(is_wide, words["offer"] == 0 and words["where"] == "any" and len(inner) > 0)

    def test_short_and_long(self):
        for words in some_rules(311, 40):
            for left, right in PAIRS:
                for rest in list(range(24)) + [60]:
                    self.check(words, left, right, rest)

    def test_below_nothing(self):
        for words in some_rules(312, 20):
            for rest in (-1, -2, -5):
                splits = Splits(made(words), "wall", "sold")
                self.assertEqual((splits.let(rest), splits.offered(rest)), ([], []))
                self.assertEqual(possible_befores(made(words), rest), [])

    def test_many_bad_lengths_and_offers(self):
        for soft in (False, True):
            for offer in range(6):
                for where in ("any", "side"):
                    words = {"sizes": [1], "bad": {"wall": EVERY, "sold": [2, 3, 4, 5], "pillar": [1]}, "soft": soft,
                             "where": where, "offer": offer}
                    for left, right in PAIRS:
                        for rest in range(24):
                            self.check(words, left, right, rest)

    def test_no_bad_lengths(self):
        self.assertEqual(Splits(Rule([2]), "wall", "sold").offered(400), list(range(401)))
        self.assertEqual(Splits(Rule([2], offer=3), "wall", "sold").offered(400), [0, 1, 2])
        self.assertEqual(Splits(Rule([2], {"wall": EVERY}, offer=5), "wall", "wall").offered(400), [0, 6, 7, 8, 9])
        self.assertEqual(Splits(Rule([2], where="side"), "wall", "sold").offered(400), [0, 400])


if __name__ == "__main__":
    unittest.main()
