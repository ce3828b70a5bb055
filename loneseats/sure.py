"""How many parties are seated for sure, and how many seats are sold: the least totals by fit worths."""

from loneseats.choices import has_size
from loneseats.errors import NoSize
from loneseats.forms import form, value
from loneseats.kinds import is_number
from loneseats.sums import least_in
from loneseats.totals import least
from loneseats.worths import Worth


def _check_until(rule, until):
    """Raises an error for any value that is neither 0 nor a size of the rule."""
    if not (is_number(until) and until == 0) and not has_size(rule, until):
        raise NoSize(until)


def _parties(rule, until):
    """The worth that counts parties."""
    _check_until(rule, until)
    return Worth({size: 1 for size in rule.sizes}, until=until)


def sure(rule, stretch, *, until=0):
    """How many parties are seated at least in a stretch, whatever their order and their choices."""
    return least(rule, _parties(rule, until), stretch)


def sure_seats(rule, stretch, *, until=0):
    """How many seats of a stretch are sold at least."""
    _check_until(rule, until)
    return least(rule, Worth({size: size for size in rule.sizes}, until=until), stretch)


def sure_in(rule, plan, *, until=0):
    """How many parties are seated at least in a plan."""
    return least_in(rule, _parties(rule, until), plan)


def least_length(rule, left, right, many, *, until=0):
    """The least length of a stretch with two ends in which at least many parties are seated for sure."""
    told = form(rule, _parties(rule, until), left, right, is_least=True)
    length = 0
    while value(told, length) < many:
        length += 1
    return length


def always_from(rule, left, right, many, *, until=0):
    """The least length from which on at least many parties are seated for sure."""
    told = form(rule, _parties(rule, until), left, right, is_least=True)
    start, period, _, _ = told
    # What a period of lengths has from the start on, all greater ones have, too, as totals rise.
    while min([value(told, length) for length in range(start, start + period)]) < many:
        start += period
    while start > 0 and value(told, start - 1) >= many:
        start -= 1
    return start
