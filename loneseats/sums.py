"""The greatest and the least totals of plans, and plays that come to them.

What can come of one stretch does not depend on the others, so the totals of the stretches of a plan add up.
"""

from loneseats.totals import Tables
from loneseats.worths import check_until


def _tables(rule, worth, free, is_least):
    """The tables of some free stretches, told by tuples (row, seat, stretch)."""
    check_until(rule, worth)
    tables = Tables(rule, worth, is_least)
    for row, seat, (left, length, right) in free:
        tables.grow(left, right, length)
    return tables


def total_among(rule, worth, free, is_least):
    """The sum of the totals of some free stretches, told by tuples (row, seat, stretch)."""
    tables = _tables(rule, worth, free, is_least)
    return sum([tables.told(left, right, length)[length] for row, seat, (left, length, right) in free])


def greatest_in(rule, worth, plan):
    """The greatest total of the plays of a plan that may end."""
    return total_among(rule, worth, plan.stretches(), False)


def least_in(rule, worth, plan):
    """The least total of the plays of a plan that may end."""
    return total_among(rule, worth, plan.stretches(), True)


def plan_play(rule, worth, plan, *, is_least=False):
    """A play of a plan that comes to its greatest or least total and may end."""
    free = plan.stretches()
    tables = _tables(rule, worth, free, is_least)
    return [(row, seat + first, size) for row, seat, stretch in free for first, size in tables.play(stretch)]
