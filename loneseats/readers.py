"""Readers: what has a text. Each takes any value, and tells the first line that cannot stand there."""

from loneseats.errors import NoText, Wrong
from loneseats.kinds import is_sale, is_stretch
from loneseats.notation import show_rule, show_worth
from loneseats.plans import Plan
from loneseats.rules import Rule
from loneseats.worths import Worth

DIGITS = "0123456789"
MOST_DIGITS = 40


def number_of(word):
    """The number that a word tells, or None."""
    if not 1 <= len(word) <= MOST_DIGITS or not all([sign in DIGITS for sign in word]):
        return None
    return None if word[0] == "0" and word != "0" else int(word)


def numbers_of(word):
    """The list of the numbers that a word tells, or None."""
    if word == "-":
        return []
    found = [number_of(part) for part in word.split(",")]
    return None if any([number is None for number in found]) else found


def _stretch_of(line):
    """The stretch that a line tells, or None."""
    words = line.split(".")
    if len(words) != 3:
        return None
    found = (words[0], number_of(words[1]), words[2])
    return found if is_stretch(found) else None


def _rule_of(line):
    """The rule that a line tells, or None."""
    words = line.split(" ")
    if len(words) != 11:
        return None
    sizes, pillar, sold, wall = [numbers_of(word) for word in words[1:8:2]]
    bad = {"pillar": pillar, "sold": sold, "wall": wall}
    try:
        rule = Rule(sizes, bad, soft=words[8] == "soft", where=words[9], offer=number_of(words[10]))
    except Wrong:
        return None
    # This also asks for the words beside the lists and the numbers, and for lists that are ascending.
    return rule if show_rule(rule) == line else None


def _prices_of(word):
    """The dict from sizes to prices that a word tells, or None."""
    prices = {}
    if word == "-":
        return prices
    for part in word.split(","):
        told = [number_of(number) for number in part.split(":")]
        if len(told) != 2:
            return None
        prices[told[0]] = told[1]
    return prices


def _worth_of(line):
    """The worth that a line tells, or None."""
    words = line.split(" ")
    if len(words) != 6:
        return None
    prices = _prices_of(words[1])
    if prices is None:
        return None
    try:
        worth = Worth(prices, number_of(words[3]), until=number_of(words[5]))
    except Wrong:
        return None
    return worth if show_worth(worth) == line else None


def _sale_of(word):
    """The sale that a word tells, or None."""
    found = tuple([number_of(number) for number in word.split(".")])
    return found if is_sale(found) else None


def _play_of(line):
    """The list of sales that a line tells, or None."""
    if line == "-":
        return []
    found = [_sale_of(word) for word in line.split(" ")]
    return None if any([sale is None for sale in found]) else found


def _form_of(line):
    """The form that a line tells, or None."""
    words = line.split(" ")
    if len(words) != 8 or words[::2] != ["start", "period", "rise", "values"]:
        return None
    start, period, rise = [number_of(word) for word in words[1:7:2]]
    values = numbers_of(words[7])
    if start is None or period is None or rise is None or values is None:
        return None
    return (start, period, rise, tuple(values)) if period > 0 and len(values) == start + period else None


def _read_line(text, told_by):
    """What a text of one line tells, told_by being the function that reads a line."""
    if not isinstance(text, str):
        raise NoText(0)
    lines = text.split("\n")
    found = told_by(lines[0])
    if found is None:
        raise NoText(1)
    if len(lines) > 1:
        raise NoText(2)
    return found


def read_stretch(text):
    """The stretch that has this text."""
    return _read_line(text, _stretch_of)


def read_rule(text):
    """The rule that has this text."""
    return _read_line(text, _rule_of)


def read_worth(text):
    """The worth that has this text."""
    return _read_line(text, _worth_of)


def read_play(text):
    """The list of sales, by their form, that has this text."""
    return _read_line(text, _play_of)


def read_form(text):
    """The form that has this text."""
    return _read_line(text, _form_of)


def _is_plan(rows):
    """Whether rows, any values, can be those of a plan."""
    try:
        Plan(rows)
    except Wrong:
        return False
    return True


def read_plan(text):
    """The plan that has this text."""
    if not isinstance(text, str):
        raise NoText(0)
    lines = text.split("\n")
    rows = []
    for at, line in enumerate(lines[:-1]):
        rows.append(numbers_of(line))
        if not _is_plan(rows):
            raise NoText(at + 1)
    # What stands behind the last line feed is a line that lacks its own; a plan has one row at least.
    if not rows or lines[-1] != "":
        raise NoText(len(lines))
    return Plan(rows)
