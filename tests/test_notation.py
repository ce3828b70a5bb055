import random
import unittest

from loneseats.forms import form
from loneseats.notation import (show_form, show_picture, show_plan, show_play, show_rule, show_sale, show_stretch,
                                show_worth)
from loneseats.papers import paper
from loneseats.plans import Plan
from loneseats.plays import sales_behind
from loneseats.rules import Rule
from loneseats.worths import Worth
from tests.plain import ENDS, PAIRS, copied, made, some_cases, some_rules, words_sales_behind, worth_of

STRICT = Rule([2], {"sold": [1]})


def words_list(numbers):
    """A LIST of numbers."""
    return "-" if len(numbers) == 0 else ",".join("{:d}".format(number) for number in numbers)


def words_rule(words):
    """The text of a rule that a dict tells."""
    lists = [sorted(set(words["sizes"]))] + [sorted(set(words["bad"].get(end, []))) for end in ENDS]
    parts = [part for word, listed in zip(("sizes",) + ENDS, lists) for part in (word, words_list(listed))]
    parts += ["soft" if words["soft"] else "strict", words["where"], str(words["offer"])]
    return " ".join(parts)


def words_worth(prices, free, until):
    """The text of a worth."""
    shown = ["{}:{}".format(size, prices[size]) for size in range(1, 6) if prices.get(size, 0) > 0]
    return "prices {} free {} until {}".format(",".join(shown) if shown else "-", free, until)


def words_picture(rows, play):
    """The picture of a plan, seat by seat."""
    lines = []
    for at, row in enumerate(rows):
        line = "|"
        for part, length in enumerate(row):
            line += ":" if part else ""
            for seat in range(sum(row[:part]), sum(row[:part]) + length):
                taken = [size for other, first, size in play if other == at and first <= seat < first + size]
                line += str(taken[0]) if taken else "."
        lines.append(line + "|")
    return "".join(line + "\n" for line in lines)


class Examples(unittest.TestCase):
    """[101] and [104], the document's examples."""

    def test_examples(self):
        self.assertEqual(show_rule(STRICT), "sizes 2 pillar - sold 1 wall - strict any 0")
        self.assertEqual(show_picture(Plan([[5, 3]]), [(0, 1, 2)]), "|.22..:...|\n")


class Texts(unittest.TestCase):
    """[100] and [101]."""

    def test_stretches(self):
        for left, right in PAIRS:
            for length in (0, 1, 9, 10, 400, 10 ** 39, 10 ** 40 - 1):
                self.assertEqual(show_stretch((left, length, right)), left + "." + str(length) + "." + right)
        self.assertEqual(show_stretch(("wall", 7, "sold")), "wall.7.sold")

    def test_rules(self):
        self.assertEqual(show_rule(Rule([3, 1, 3], {"wall": [5, 2], "pillar": (1, 1)}, soft=True, where="side", offer=5)),
                         "sizes 1,3 pillar 1 sold - wall 2,5 soft side 5")
        self.assertEqual(show_rule(Rule([1, 2, 3, 4, 5], {end: [5, 4, 3, 2, 1] for end in ENDS})),
                         "sizes 1,2,3,4,5 pillar 1,2,3,4,5 sold 1,2,3,4,5 wall 1,2,3,4,5 strict any 0")
        for words in some_rules(1001, 60):
            self.assertEqual(show_rule(made(words)), words_rule(words))

    def test_worths(self):
        self.assertEqual(show_worth(Worth()), "prices - free 0 until 0")
        self.assertEqual(show_worth(Worth({5: 9, 1: 0, 2: 3}, 7, until=4)), "prices 2:3,5:9 free 7 until 4")
        self.assertEqual(show_worth(Worth({3: 0})), "prices - free 0 until 0")
        for words, parts in some_cases(1002, 60):
            self.assertEqual(show_worth(worth_of(parts)), words_worth(*parts))

    def test_plans(self):
        for rows, text in (([[5, 7], [9]], "5,7\n9\n"), ([[60]], "60\n"), (((1, 1, 1, 1, 1),), "1,1,1,1,1\n"),
                           ([[10, 2], [3], [1], [4, 4], [20]], "10,2\n3\n1\n4,4\n20\n")):
            self.assertEqual(show_plan(Plan(rows)), text)

    def test_sales_and_plays(self):
        self.assertEqual(show_sale((0, 12, 5)), "0.12.5")
        self.assertEqual(show_sale((10 ** 39, 0, 1)), "1" + "0" * 39 + ".0.1")
        self.assertEqual(show_play([]), "-")
        self.assertEqual(show_play([(0, 1, 2)]), "0.1.2")
        self.assertEqual(show_play([(3, 10, 2), (0, 1, 2), (0, 1, 2)]), "3.10.2 0.1.2 0.1.2")

    def test_forms(self):
        self.assertEqual(show_form(form(STRICT, Worth(free=1), "sold", "sold")),
                         "start 2 period 5 rise 3 values 0,1,0,3,0,3,0")
        self.assertEqual(show_form((0, 1, 0, [7])), "start 0 period 1 rise 0 values 7")
        self.assertEqual(show_form((1, 2, 10 ** 39, (0, 10 ** 40 - 1, 5))),
                         "start 1 period 2 rise 1" + "0" * 39 + " values 0," + "9" * 40 + ",5")
        for words, parts in some_cases(1003, 12):
            for start, period, rise, values in paper(made(words), worth_of(parts)).values():
                text = "start {} period {} rise {} values {}".format(start, period, rise, words_list(values))
                self.assertEqual(show_form((start, period, rise, values)), text)
                self.assertEqual(show_form((start, period, rise, list(values))), text)


class Pictures(unittest.TestCase):
    """[100] and [101], pictures."""

    def test_empty_plans(self):
        self.assertEqual(show_picture(Plan([[5, 7], [1], [2, 1, 1]]), []), "|.....:.......|\n|.|\n|..:.:.|\n")

    def test_pillars_and_several_rows(self):
        play = [(1, 0, 1), (0, 4, 2), (0, 0, 4), (2, 1, 5)]
        self.assertEqual(show_picture(Plan([[4, 3], [1, 1], [6]]), play), "|4444:22.|\n|1:.|\n|.55555|\n")

    def test_by_chance(self):
        chance = random.Random(1004)
        for words in some_rules(1004, 30):
            rows = chance.choice([[[9]], [[3, 4], [5]], [[1, 1, 8], [2], [12, 3]], [[12, 12, 12, 12, 12]],
                                  [[2, 2], [2, 2], [2, 2], [2, 2], [2, 2]]])
            play = []
            while words_sales_behind(words, rows, play) and chance.random() < 0.9:
                play.append(chance.choice(words_sales_behind(words, rows, play)))
                self.assertEqual(show_picture(Plan(rows), play), words_picture(rows, play))

    def test_what_is_passed_stays(self):
        plan, play = Plan([[5, 3]]), [(0, 1, 2), (0, 5, 2)]
        kept = copied(play)
        show_picture(plan, play)
        show_play(play)
        self.assertEqual(play, kept)
        self.assertEqual(plan.rows(), [(5, 3)])
        self.assertTrue(sales_behind(STRICT, plan, play))


if __name__ == "__main__":
    unittest.main()
