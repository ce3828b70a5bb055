"""The greatest and the least totals of single stretches, and the plays that come to them.

A sale in a stretch is a tuple (seat, size), its seats being counted from 0.
"""

from loneseats.choices import offered, sales
from loneseats.errors import BadSale
from loneseats.plays import free_behind, tally
from loneseats.stretches import parts
from loneseats.worths import check_until, may_end


def pairs_within(left, right):
    """The ends of all stretches that can come of one with these ends, each ahead of those that lead to it."""
    found = []
    for pair in [("sold", "sold"), (left, "sold"), ("sold", right), (left, right)]:
        if pair not in found:
            found.append(pair)
    return found


def _best_total(rule, worth, tables, stretch, is_least):
    """The greatest or least total of a stretch, by the tables of what can come of it."""
    left, length, right = stretch
    found = [worth.free * length] if may_end(rule, worth, stretch) else []
    for size in rule.sizes:
        price, rest = worth.price(size), length - size
        befores, afters = tables[(left, "sold")], tables[("sold", right)]
        found.extend([price + befores[before] + afters[rest - before] for before in offered(rule, stretch, size)])
    return min(found) if is_least else max(found)


def tables_within(rule, worth, left, right, upto, is_least):
    """The dict from the pairs of ends that can come of these two to the lists of their totals, upto included."""
    tables = {}
    for one, other in pairs_within(left, right):
        # The list stands in the dict before it is full, as a stretch can leave shorter ones with its own ends.
        tables[(one, other)] = []
        for length in range(upto + 1):
            tables[(one, other)].append(_best_total(rule, worth, tables, (one, length, other), is_least))
    return tables


def table(rule, worth, left, right, upto, *, is_least=False):
    """The totals of the stretches with two ends and the lengths from 0 to upto."""
    check_until(rule, worth)
    return tables_within(rule, worth, left, right, upto, is_least)[(left, right)]


def greatest(rule, worth, stretch):
    """The greatest total of a stretch."""
    left, length, right = stretch
    return table(rule, worth, left, right, length)[length]


def least(rule, worth, stretch):
    """The least total of a stretch."""
    left, length, right = stretch
    return table(rule, worth, left, right, length, is_least=True)[length]


def _all_totals(rule, worth, known, stretch):
    """The ascending list of all totals of a stretch, by those of what can come of it."""
    found = set()
    if may_end(rule, worth, stretch):
        found.add(worth.free * stretch[1])
    for size, before in sales(rule, stretch):
        left, right = parts(stretch, size, before)
        for one in known[left]:
            for other in known[right]:
                found.add(worth.price(size) + one + other)
    return sorted(found)


def totals_of(rule, worth, stretch):
    """The different totals of all plays of a stretch that may end, ascending."""
    check_until(rule, worth)
    left, length, right = stretch
    known = {}
    for one, other in pairs_within(left, right):
        for many in range(length + 1):
            known[(one, many, other)] = _all_totals(rule, worth, known, (one, many, other))
    return known[stretch]


def _choice_for(rule, worth, tables, stretch):
    """A choice with which a stretch comes to its total in the tables; None if it does so only as it is."""
    left, length, right = stretch
    total = tables[(left, right)][length]
    for size, before in sales(rule, stretch):
        rest = tables[(left, "sold")][before] + tables[("sold", right)][length - size - before]
        if worth.price(size) + rest == total:
            return size, before
    return None


def play_for(rule, worth, stretch, *, is_least=False):
    """A play of a stretch that comes to its greatest or least total and may end."""
    check_until(rule, worth)
    left, length, right = stretch
    tables = tables_within(rule, worth, left, right, length, is_least)
    play = []
    waiting = [(0, stretch)]
    while waiting:
        first, place = waiting.pop()
        choice = _choice_for(rule, worth, tables, place)
        if choice is not None:
            size, before = choice
            one, other = parts(place, size, before)
            play.append((first + before, size))
            waiting.append((first, one))
            waiting.append((first + before + size, other))
    return play


def _in_row(play):
    """The members of a play of a stretch, any values, as sales of a row 0; what is no sale stays none."""
    return [(0, *member) if isinstance(member, tuple) else member for member in play]


def _free_within(rule, stretch, play):
    """The tuples (0, seat, stretch) of the free stretches behind a play of a stretch."""
    free = [(0, 0, stretch)] if stretch[1] > 0 else []
    return free_behind(rule, free, _in_row(play))


def left_behind(rule, stretch, play):
    """The tuples (seat, stretch) of the free stretches behind a play of a stretch, ascending."""
    return [(seat, part) for row, seat, part in _free_within(rule, stretch, play)]


def total_of(rule, worth, stretch, play):
    """The total of a play of a stretch that may end."""
    check_until(rule, worth)
    free = [part for seat, part in left_behind(rule, stretch, play)]
    if not all([may_end(rule, worth, part) for part in free]):
        raise BadSale(len(play))
    return worth.total(tally(_in_row(play)), sum([part[1] for part in free]))
