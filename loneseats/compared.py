"""Which of two rules is ever worse, and where: the totals of all lengths by one, against those by the other."""

from math import lcm

from loneseats.forms import form, own_round, value
from loneseats.papers import paper


def _gap(told, other):
    """How much more one form tells than another one: a tuple like a form, its start and period being any that do."""
    start, period = max(told[0], other[0]), lcm(told[1], other[1])
    rise = told[2] * (period // told[1]) - other[2] * (period // other[1])
    return start, period, rise, tuple([value(told, length) - value(other, length) for length in range(start + period)])


def _gap_of(one, other, worth, left, right, is_least):
    """The gap between the forms of two rules."""
    return _gap(form(one, worth, left, right, is_least=is_least), form(other, worth, left, right, is_least=is_least))


def _first_above(gap):
    """The least length with a gap above 0, None if there is none."""
    start, period, rise, numbers = gap
    found = [length for length, number in enumerate(numbers) if number > 0]
    if not found and rise > 0:
        found = [start + at + period * (-number // rise + 1) for at, number in enumerate(numbers[start:])]
    return min(found) if found else None


def _late_round(gap):
    """A length from which on the lengths with a gap above 0 come round, and a period."""
    start, period, rise, numbers = gap
    if rise == 0:
        return start, period
    # Behind so many turns each gap has the sign of the rise, for good.
    turns = max([abs(number) for number in numbers[start:]]) // abs(rise) + 1
    return start + period * turns, 1


def worse_lengths(one, other, worth, left, right, *, is_least=False):
    """For which lengths the total by one is greater: a tuple (start, period, lengths)."""
    gap = _gap_of(one, other, worth, left, right, is_least)
    late, period = _late_round(gap)
    truths = [1 if value(gap, length) > 0 else 0 for length in range(late + 2 * period)]
    start, period = own_round(truths, late, period)
    return start, period, tuple([length for length in range(start + period) if truths[length] == 1])


def first_worse(one, other, worth, left, right, *, is_least=False):
    """The least length for which the total by one is greater, None if there is none."""
    return _first_above(_gap_of(one, other, worth, left, right, is_least))


def never_worse(one, other, worth, *, is_least=False):
    """Whether the total by one is never greater, with any ends."""
    ones, others = paper(one, worth, is_least=is_least), paper(other, worth, is_least=is_least)
    return all([_first_above(_gap(ones[pair], others[pair])) is None for pair in ones])


def widest(one, other, worth, left, right, *, is_least=False):
    """By how much the total by one is greater at most, None if this grows without end."""
    _, _, rise, numbers = _gap_of(one, other, worth, left, right, is_least)
    return None if rise > 0 else max(numbers)
