"""Plays: sales in a plan, one behind the other, and what is free behind them."""

from loneseats.choices import is_sold, sales
from loneseats.errors import BadSale
from loneseats.kinds import is_sale
from loneseats.stretches import parts


def _behind_one(rule, free, sale):
    """The free stretches behind one more sale, any value, or None if it is not offered.

    Free stretches are an ascending list of tuples (row, seat, stretch) without such as have no seats.
    """
    if not is_sale(sale):
        return None
    row, seat, size = sale
    for at, (other, first, stretch) in enumerate(free):
        if other == row and is_sold(rule, stretch, (size, seat - first)):
            left, right = parts(stretch, size, seat - first)
            left_free = [(row, first, left)] if left[1] > 0 else []
            right_free = [(row, seat + size, right)] if right[1] > 0 else []
            return free[:at] + left_free + right_free + free[at + 1:]
    return None


def free_behind(rule, free, play):
    """The free stretches behind a list of any values, or an error for the first one that is no sale then."""
    for at, sale in enumerate(play):
        free = _behind_one(rule, free, sale)
        if free is None:
            raise BadSale(at)
    return free


def behind(rule, plan, play):
    """The tuples (row, seat, stretch) of the free stretches behind a play, ascending."""
    if not isinstance(play, list):
        raise BadSale(-1)
    return free_behind(rule, plan.stretches(), play)


def sales_behind(rule, plan, play):
    """All sales that are offered behind a play, ascending."""
    free = behind(rule, plan, play)
    return sorted([(row, seat + before, size) for row, seat, stretch in free for size, before in sales(rule, stretch)])


def free_seats(rule, plan, play):
    """How many seats are free behind a play."""
    return sum([stretch[1] for row, seat, stretch in behind(rule, plan, play)])


def is_play(rule, plan, thing):
    """Whether thing, any value, is a play."""
    try:
        behind(rule, plan, thing)
    except BadSale:
        return False
    return True


def is_whole(rule, plan, thing):
    """Whether thing, any value, is a play behind which all stretches are stuck."""
    return is_play(rule, plan, thing) and not sales_behind(rule, plan, thing)


def tally(play):
    """The dict from the sizes that are sold to how often, ascending."""
    sold = [size for row, seat, size in play]
    return {size: sold.count(size) for size in sorted(set(sold))}
