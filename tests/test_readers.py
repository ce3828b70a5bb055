import random
import re
import unittest

from loneseats.errors import NoText
from loneseats.kinds import is_sale
from loneseats.notation import show_form, show_plan, show_play, show_rule, show_stretch, show_worth
from loneseats.papers import paper
from loneseats.plans import Plan
from loneseats.readers import read_form, read_plan, read_play, read_rule, read_stretch, read_worth
from loneseats.rules import Rule
from loneseats.worths import Worth
from tests.plain import PAIRS, any_values, made, same, some_cases, some_rules, worth_of

READERS = (read_stretch, read_rule, read_worth, read_plan, read_play, read_form)
NUMBER = "(?:0|[1-9][0-9]{0,39})"
LIST = "(?:-|" + NUMBER + "(?:," + NUMBER + ")*)"
END = "(?:pillar|sold|wall)"
SIGNS = "0123456789 .,:-\nabsw+"


def is_ascending(listed):
    """Whether a LIST of sizes or of bad lengths is one of numbers from 1 to 5 that ascend."""
    words = [] if listed == "-" else listed.split(",")
    return all(word in ("1", "2", "3", "4", "5") for word in words) and words == sorted(set(words))


def is_stretch_text(line):
    return re.fullmatch(END + r"\." + NUMBER + r"\." + END, line) is not None


def is_rule_text(line):
    found = re.fullmatch("sizes ({0}) pillar ({0}) sold ({0}) wall ({0}) (?:soft|strict) (?:any|side) [0-5]".format(LIST),
                         line)
    return found is not None and found[1] != "-" and all(is_ascending(listed) for listed in found.groups())


def is_worth_text(line):
    found = re.fullmatch("prices (-|[1-5]:[1-9](?:,[1-5]:[1-9])*) free [0-9] until [0-5]", line)
    return found is not None and is_ascending(re.sub(":[0-9]", "", found[1]))


def is_play_text(line):
    sale = NUMBER + r"\." + NUMBER + r"\.[1-5]"
    return re.fullmatch("-|{0}(?: {0})*".format(sale), line) is not None


def is_form_text(line):
    found = re.fullmatch("start ({0}) period ({0}) rise {0} values ({1})".format(NUMBER, LIST), line)
    if found is None or found[2] == "0" or found[3] == "-":
        return False
    return len(found[3].split(",")) == int(found[1]) + int(found[2])


def is_rows(lines):
    """Whether lines are those of the rows of a plan."""
    if not 1 <= len(lines) <= 5 or any(re.fullmatch(NUMBER + "(?:," + NUMBER + "){0,4}", line) is None for line in lines):
        return False
    lengths = [int(word) for line in lines for word in line.split(",")]
    return 0 not in lengths and sum(lengths) <= 60


def wrong_line(text, is_text):
    """The number of the first line of a text of one line that cannot stand there, None if it can be read."""
    lines = text.split("\n")
    if not is_text(lines[0]):
        return 1
    return 2 if len(lines) > 1 else None


def wrong_plan_line(text):
    """The number of the first line that cannot stand in a plan, None if it can be read."""
    ended = text.split("\n")
    last = ended.pop()
    for many in range(1, len(ended) + 1):
        if not is_rows(ended[:many]):
            return many
    return len(ended) + 1 if last or not ended else None


CHECKS = {read_stretch: lambda text: wrong_line(text, is_stretch_text),
          read_rule: lambda text: wrong_line(text, is_rule_text), read_worth: lambda text: wrong_line(text, is_worth_text),
          read_play: lambda text: wrong_line(text, is_play_text), read_form: lambda text: wrong_line(text, is_form_text),
          read_plan: wrong_plan_line}
SHOWS = {read_stretch: show_stretch, read_rule: show_rule, read_worth: show_worth, read_play: show_play,
         read_form: show_form, read_plan: show_plan}
SOME = {
    read_stretch: ["wall.7.sold", "pillar.0.pillar", "sold.400.wall", "wall." + "9" * 40 + ".sold"],
    read_rule: ["sizes 2 pillar - sold 1 wall - strict any 0", "sizes 1,3,5 pillar 2,4 sold - wall 1,2,3,4,5 soft side 5"],
    read_worth: ["prices - free 0 until 0", "prices 1:9,4:2 free 7 until 3", "prices 5:1 free 9 until 5"],
    read_play: ["-", "0.1.2", "0.10.5 3.0.1 0.1.2", "9" * 40 + ".0.1"],
    read_form: ["start 2 period 5 rise 3 values 0,1,0,3,0,3,0", "start 0 period 1 rise 0 values 12",
                "start 1 period 1 rise " + "8" * 40 + " values 0," + "7" * 40],
    read_plan: ["5,3\n", "1,2,3,4,5\n9\n10\n1\n25\n", "60\n", "12\n12\n12\n12\n12\n"],
}


class Readers(unittest.TestCase):
    """What the tests of readers share."""

    def no_text(self, reader, text, line):
        with self.assertRaises(NoText, msg=(reader, text)) as caught:
            reader(text)
        self.assertTrue(same(caught.exception.line, line), (reader.__name__, text, caught.exception.line, line))

    def check(self, reader, text):
        """Holds a reader against what the text must be; it tells whether the text can be read."""
        line = CHECKS[reader](text)
        if line is not None:
            self.no_text(reader, text, line)
            return False
        self.assertEqual(SHOWS[reader](reader(text)), text)
        return True


class Examples(Readers):
    """[104], the document's example."""

    def test_example(self):
        self.assertEqual(read_rule("sizes 2 pillar - sold 1 wall - strict any 0"), Rule([2], {"sold": [1]}))


class Shown(Readers):
    """[102]: what is shown is read as an equal thing."""

    def test_stretches(self):
        for left, right in PAIRS:
            for length in (0, 1, 10, 400, 401, 10 ** 40 - 1):
                stretch = (left, length, right)
                self.assertTrue(same(read_stretch(show_stretch(stretch)), stretch))

    def test_rules(self):
        for words in some_rules(1021, 80):
            self.assertEqual(read_rule(show_rule(made(words))), made(words))

    def test_worths(self):
        for words, parts in some_cases(1022, 80):
            worth = read_worth(show_worth(worth_of(parts)))
            self.assertEqual(worth, worth_of(parts))
            self.assertIs(type(worth), Worth)

    def test_plans(self):
        chance = random.Random(1023)
        for _ in range(60):
            rows = [[chance.randint(1, 3) for _ in range(chance.randint(1, 5))] for _ in range(chance.randint(1, 4))]
            plan = read_plan(show_plan(Plan(rows)))
            self.assertTrue(plan == Plan(rows) and type(plan) is Plan)

    def test_plays(self):
        chance = random.Random(1024)
        for many in (0, 1, 2, 9, 60):
            play = [(chance.randint(0, 4), chance.randint(0, 10 ** chance.randint(0, 39)), chance.randint(1, 5))
                    for _ in range(many)]
            found = read_play(show_play(play))
            self.assertTrue(same(found, play))
            self.assertTrue(all(is_sale(sale) for sale in found))
        self.assertTrue(same(read_play("-"), []))

    def test_forms(self):
        for words, parts in some_cases(1025, 16):
            for told in paper(made(words), worth_of(parts)).values():
                self.assertTrue(same(read_form(show_form(told)), told))
                self.assertTrue(same(read_form(show_form(told[:3] + (list(told[3]),))), told))

    def test_answers_are_new(self):
        found = read_play("0.1.2")
        found.clear()
        self.assertEqual(read_play("0.1.2"), [(0, 1, 2)])


class Spoilt(Readers):
    """[100] and [102]: every way in which a text can be spoilt."""

    def test_one_sign_more_less_or_other(self):
        for reader, texts in SOME.items():
            for text in texts:
                self.assertTrue(self.check(reader, text))
                for at in range(len(text) + 1):
                    self.check(reader, text[:at] + text[at + 1:])
                    for sign in SIGNS:
                        self.check(reader, text[:at] + sign + text[at:])
                        self.check(reader, text[:at] + sign + text[at + 1:])

    def test_words_moved_lacking_and_twice(self):
        for reader, texts in SOME.items():
            for text in texts:
                words = text.split(" ")
                for at in range(len(words)):
                    self.check(reader, " ".join(words[:at] + words[at + 1:]))
                    self.check(reader, " ".join(words[:at] + [words[at]] + words[at:]))
                    self.check(reader, " ".join(words[:at] + [""] + words[at:]))
                    self.check(reader, " ".join(words[at:] + words[:at]))
                    for other in ("-", "0", "6", "1,2", "2,1", "2,2", "01", "1:2,1:2", "soft", "side", "sizes", "wall",
                                  "9" * 40, "9" * 41, "1" * 9000, "1.1.1", "0:1", "1:0", "6:1"):
                        self.check(reader, " ".join(words[:at] + [other] + words[at + 1:]))

    def test_texts_of_other_things(self):
        for reader in READERS:
            for texts in SOME.values():
                for text in texts:
                    self.check(reader, text)
                    self.check(reader, text + text)

    def test_by_chance(self):
        chance = random.Random(1026)
        for reader, texts in SOME.items():
            good = 0
            for _ in range(1500):
                text = chance.choice(texts)
                for _ in range(chance.randint(1, 4)):
                    at, other = chance.randint(0, len(text)), chance.randint(0, 2)
                    text = text[:at] + "".join(chance.choice(SIGNS) for _ in range(other)) + text[at + chance.randint(0, 2):]
                good += self.check(reader, text)
            self.assertGreater(good, 5, reader.__name__)

    def test_lists(self):
        for listed, good in (("-", False), ("1", True), ("5", True), ("0", False), ("6", False), ("1,2", True),
                             ("2,1", False), ("2,2", False), ("1,2,3,4,5", True), ("1,,2", False), ("1,2,", False),
                             (",1", False), ("01", False), ("+1", False), ("-1", False), ("1 2", False), ("", False)):
            for at, word in enumerate(("sizes", "pillar", "sold", "wall")):
                lists = ["2", "-", "1", "-"]
                lists[at] = listed
                text = "sizes {} pillar {} sold {} wall {} strict any 0".format(*lists)
                self.assertIs(self.check(read_rule, text), good or (listed == "-" and at > 0))

    def test_how_where_and_offer(self):
        for how in ("soft", "strict", "Soft", "True", "", "-"):
            for where in ("any", "side", "sides", "-", "wall"):
                for offer in ("0", "5", "6", "00", "-", "", "-1", "1,2"):
                    good = how in ("soft", "strict") and where in ("any", "side") and offer in ("0", "5")
                    self.assertIs(self.check(read_rule, f"sizes 2 pillar - sold 1 wall - {how} {where} {offer}"), good)

    def test_prices(self):
        for prices, good in (("-", True), ("1:1", True), ("1:0", False), ("0:1", False), ("6:1", False), ("5:9", True),
                             ("5:10", False), ("2:1,1:1", False), ("1:1,1:1", False), ("1:1,1:2", False), ("1", False),
                             ("1:1:1", False), ("1:", False), (":1", False), ("1:01", False), ("1:1,", False),
                             ("1:1,2:2,3:3,4:4,5:5", True), ("1:-", False), ("1:1,2:0", False)):
            self.assertIs(self.check(read_worth, f"prices {prices} free 1 until 0"), good)
        for free, until, good in (("0", "0", True), ("9", "5", True), ("10", "0", False), ("0", "6", False),
                                  ("00", "0", False), ("0", "00", False), ("-1", "0", False), ("0", "-", False)):
            self.assertIs(self.check(read_worth, f"prices 2:3 free {free} until {until}"), good)

    def test_forty_digits_and_forty_one(self):
        for digits, good in (("1" * 40, True), ("1" * 41, False), ("9" * 40, True), ("0" * 40, False),
                             ("1" + "0" * 39, True), ("1" + "0" * 40, False), ("0" + "1" * 39, False)):
            self.assertIs(self.check(read_stretch, f"wall.{digits}.sold"), good)
            self.assertIs(self.check(read_play, f"0.1.2 {digits}.0.1"), good)
            self.assertIs(self.check(read_play, f"0.{digits}.1"), good)
            self.assertIs(self.check(read_play, f"0.0.{digits}"), False)
            self.assertIs(self.check(read_form, f"start 0 period 1 rise {digits} values {digits}"), good)
            self.assertIs(self.check(read_form, f"start {digits} period 1 rise 0 values 1,1"), False)
            self.assertIs(self.check(read_plan, f"{digits}\n"), False)

    def test_forms_of_another_many_values(self):
        for start, period, many, good in ((0, 1, 1, True), (2, 3, 5, True), (2, 3, 4, False), (2, 3, 6, False),
                                          (1, 0, 1, False), (0, 0, 0, False), (0, 0, 1, False), (5, 1, 6, True)):
            listed = ",".join(["3"] * many) if many else "-"
            self.assertIs(self.check(read_form, f"start {start} period {period} rise 1 values {listed}"), good)
        self.assertIs(self.check(read_form, "start 0 period 1 rise -1 values 3"), False)

    def test_what_is_no_string(self):
        for reader in READERS:
            for thing in any_values():
                if isinstance(thing, str):
                    self.check(reader, thing)
                else:
                    self.no_text(reader, thing, 0)
            self.no_text(reader, [SOME[reader][0]], 0)
            self.no_text(reader, b"wall.7.sold", 0)


class Lines(Readers):
    """[102], the number of the first line that cannot stand there."""

    def test_texts_of_one_line(self):
        for reader, texts in SOME.items():
            if reader == read_plan:
                continue
            for text in texts:
                self.no_text(reader, text + "\n", 2)
                self.no_text(reader, text + "\n\n", 2)
                self.no_text(reader, text + "\n" + text, 2)
                self.no_text(reader, text + "\nx", 2)
                self.no_text(reader, "\n" + text, 1)
                self.no_text(reader, text + "x\n", 1)
                self.no_text(reader, text + " \n" + text, 1)
            for text in ("", "\n", " ", "x", "x\ny"):
                self.no_text(reader, text, 1)

    def test_plans(self):
        for text, line in (("", 1), ("5", 1), ("\n", 1), ("\n5\n", 1), ("5\n\n", 2), ("5\n3", 2), ("5\nx", 2), ("5\nx\n", 2),
                           ("5\n3\n ", 3), ("5 \n3\n", 1), ("0\n", 1), ("61\n", 1), ("5,\n", 1), ("-\n", 1), ("5\n-\n", 2),
                           ("1,1,1,1,1,1\n", 1), ("5\n1,1,1,1,1,1\n7\n", 2), ("1\n1\n1\n1\n1\n1\n", 6), ("1\n1\n1\n1\n1\n1", 6),
                           ("1\n1\n1\n1\n1\n\n", 6), ("30\n30\n1\n", 3), ("30\n31\n0\n", 2), ("60\n1", 2), ("60\n1\n", 2),
                           ("20\n20\n20\n\n", 4), ("59,1\n1\n", 2), ("05\n", 1), ("5\n05\n", 2), ("5.3\n", 1), ("5, 3\n", 1),
                           ("1\n1\n1\n1\n1\n1\n1\n1\n", 6), ("5\r\n", 1), ("x\n5", 1), ("5\n3\nx", 3), ("x", 1)):
            self.assertEqual(wrong_plan_line(text), line, text)
            self.no_text(read_plan, text, line)
        for text in ("1\n1\n1\n1\n1\n", "60\n", "1,1,1,1,1\n", "59\n1\n", "12,12\n12\n12,12\n"):
            self.assertTrue(self.check(read_plan, text))


if __name__ == "__main__":
    unittest.main()
