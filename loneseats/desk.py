"""Desks: a hall that is led, and asked, by lines of text."""

from loneseats.errors import NoCommand, NoText, Wrong
from loneseats.forms import form
from loneseats.halls import Hall
from loneseats.kinds import is_end, is_size
from loneseats.notation import (show_form, show_picture, show_plan, show_play, show_rule, show_sale, show_stretch,
                                show_words, show_worth)
from loneseats.plans import Plan
from loneseats.plays import tally
from loneseats.readers import number_of, read_stretch
from loneseats.rules import Rule
from loneseats.sums import total_among
from loneseats.totals import greatest, least
from loneseats.worths import Worth

MOST_SEATS = 120


def _yes_or_no(truth):
    """The word of a truth."""
    return "yes" if truth else "no"


def _size_of(word):
    """The size that a word tells."""
    size = number_of(word)
    if not is_size(size):
        raise NoCommand()
    return size


def _stretch_of(word):
    """The stretch that a word tells, which has no more seats than are asked."""
    try:
        stretch = read_stretch(word)
    except NoText:
        raise NoCommand()
    if stretch[1] > MOST_SEATS:
        raise NoCommand()
    return stretch


class Desk:
    """A worth, and a hall of a plan that is sold by a rule."""

    def __init__(self, rule, worth, plan):
        if not isinstance(rule, Rule):
            raise Wrong(0)
        if not isinstance(worth, Worth):
            raise Wrong(1)
        if not isinstance(plan, Plan):
            raise Wrong(2)
        self._worth = worth
        self._hall = Hall(plan, rule)

    def execute(self, line):
        """Does what a line, any value, says, and returns what it answers."""
        if not isinstance(line, str):
            raise NoCommand()
        words = line.split(" ")
        word, many = words[0], len(words)
        if many == 1:
            return self._of_hall(word)
        if word in ("offers", "refused") and many == 2:
            return self._of_size(word, _size_of(words[1]))
        if word == "stretch" and many == 2:
            return self._of_stretch(_stretch_of(words[1]))
        if word == "form" and many == 3:
            return self._form(words[1], words[2])
        if word == "sell" and many == 4:
            return self._sell(number_of(words[1]), number_of(words[2]), _size_of(words[3]))
        raise NoCommand()

    def hall(self):
        """A copy of the hall."""
        return self._hall.copied()

    def _of_hall(self, word):
        """What is answered to a line of one word that changes the hall or asks for what it is now."""
        hall = self._hall
        if word == "back":
            return show_sale(hall.back())
        if word == "again":
            return show_sale(hall.again())
        if word == "play":
            return show_play(hall.log())
        if word == "picture":
            return show_picture(hall.plan, hall.log())
        if word == "free":
            return str(hall.seats())
        if word == "whole":
            return _yes_or_no(hall.is_whole())
        if word == "stretches":
            return show_words([f"{row}.{seat}.{show_stretch(stretch)}" for row, seat, stretch in hall.stretches()])
        return self._of_worth(word)

    def _of_worth(self, word):
        """What is answered to a line of another word."""
        hall, worth = self._hall, self._worth
        if word == "total":
            return str(worth.total(tally(hall.log()), hall.seats()))
        if word in ("greatest", "least"):
            behind = total_among(hall.rule, worth, hall.stretches(), word == "least")
            return str(worth.total(tally(hall.log()), 0) + behind)
        if word == "rule":
            return show_rule(hall.rule)
        if word == "worth":
            return show_worth(worth)
        if word == "plan":
            return show_plan(hall.plan)
        raise NoCommand()

    def _of_size(self, word, size):
        """What is answered to a line about a size."""
        if word == "refused":
            return _yes_or_no(self._hall.refused(size))
        return show_words([f"{row}.{seat}" for row, seat in self._hall.offers(size)])

    def _of_stretch(self, stretch):
        """The greatest and the least total of a stretch."""
        rule, worth = self._hall.rule, self._worth
        return f"{greatest(rule, worth, stretch)} {least(rule, worth, stretch)}"

    def _form(self, left, right):
        """The form of the greatest totals of two words, if they are ends."""
        if not is_end(left) or not is_end(right):
            raise NoCommand()
        return show_form(form(self._hall.rule, self._worth, left, right))

    def _sell(self, row, seat, size):
        """Does a sale, row and seat being None for words that are no numbers."""
        if row is None or seat is None:
            raise NoCommand()
        self._hall.sell(row, seat, size)
        return "ok"
