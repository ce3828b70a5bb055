"""The greatest and the least totals of plans, and plays that come to them.

What can come of one stretch does not depend on the others, so the totals of the stretches of a plan add up.
"""

from loneseats.totals import Tables
from loneseats.worths import check_until


def _tables(rule, worth, plan, is_least):
    """The tables of all stretches of a plan."""
    check_until(rule, worth)
    tables = Tables(rule, worth, is_least)
    for row, seat, (left, length, right) in plan.stretches():
        tables.grow(left, right, length)
    return tables


def _sum(rule, worth, plan, is_least):
    """The sum of the totals of the stretches of a plan."""
    tables = _tables(rule, worth, plan, is_least)
    return sum([tables.told(left, right, length)[length] for row, seat, (left, length, right) in plan.stretches()])


def greatest_in(rule, worth, plan):
    """The greatest total of the plays of a plan that may end."""
    return _sum(rule, worth, plan, False)


def least_in(rule, worth, plan):
    """The least total of the plays of a plan that may end."""
    return _sum(rule, worth, plan, True)


def plan_play(rule, worth, plan, *, is_least=False):
    """A play of a plan that comes to its greatest or least total and may end."""
    tables = _tables(rule, worth, plan, is_least)
    return [(row, seat + first, size) for row, seat, stretch in plan.stretches()
            for first, size in tables.play(stretch)]
