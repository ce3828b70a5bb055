"""Forms: the totals of all lengths at once, which come round with a rise."""

from loneseats.items import best_item
from loneseats.totals import Tables


def _behind_unlike(numbers, start, stop, period, rise):
    """The first length from start on from which on, as far as stop, a length greater by period has rise more."""
    for length in range(stop - 1, start - 1, -1):
        if numbers[length + period] - numbers[length] != rise:
            return length + 1
    return start


def common_start(rule, grown, pairs, start, period, rise):
    """The least common length, not below start, from which on all numbers that can come of some pairs come round.

    grown can grow them and keeps them; start is not below the span, and such a length must exist. If all numbers below
    2 * start + 2 * period + the greatest size come round, all do: one part of each choice in a longer stretch has at
    least start + period seats, and a choice that leaves it shorter by period stands in the stretch shorter by period.
    """
    while True:
        upto = 2 * start + 2 * period + max(rule.sizes) - 1
        for left, right in pairs:
            grown.grow(left, right, upto)
        later = max([_behind_unlike(kept, start, upto + 1 - period, period, rise) for kept in grown.kept()])
        if later == start:
            return start
        start = later


def least_period(rows, start, period):
    """The least period of some lists of numbers that come round from start on by period."""
    for shorter in range(1, period):
        if period % shorter == 0 and all([_comes_round(row, start, shorter, period) for row in rows]):
            return shorter
    return period


def _comes_round(numbers, start, shorter, period):
    """Whether numbers that come round by period come round by a shorter one, too."""
    rise = numbers[start + shorter] - numbers[start]
    return _behind_unlike(numbers, start, start + period, shorter, rise) == start


def own_round(numbers, start, period):
    """The least period of numbers that come round from start on by period, and the least start for it."""
    period = least_period([numbers], start, period)
    rise = numbers[start + period] - numbers[start]
    return _behind_unlike(numbers, 0, start, period, rise), period


def grown_round(rule, worth, pairs, is_least):
    """The Tables of some pairs of ends, and a start and a period for them, start not being below the span.

    By an item that gains most for its weight each stretch that is long enough can be made longer, and none gains more
    in the long run: so the weight is a period.
    """
    weight, gain = best_item(rule, worth, is_least=is_least)
    tables = Tables(rule, worth, is_least)
    start = common_start(rule, tables, pairs, rule.span(), weight, -gain if is_least else gain)
    return tables, start, weight


def form(rule, worth, left, right, *, is_least=False):
    """The form of the totals of the stretches with two ends: a tuple (start, period, rise, values)."""
    tables, late, weight = grown_round(rule, worth, [(left, right)], is_least)
    totals = tables.told(left, right, late + 2 * weight)
    start, period = own_round(totals, late, weight)
    return start, period, totals[start + period] - totals[start], tuple(totals[:start + period])


def value(told, length):
    """The total that a form tells of a length."""
    start, period, rise, values = told
    if length < start:
        return values[length]
    turns = (length - start) // period
    return values[length - turns * period] + turns * rise
