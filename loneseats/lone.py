"""Lone stretches: they refuse a size though they have room for it."""

from loneseats.choices import check_size, offered, refuses
from loneseats.comes import is_closed, play_to, truths_round, ways
from loneseats.plays import behind
from loneseats.stretches import parts
from loneseats.totals import pairs_within


def _is_lone(rule, stretch, size):
    """Whether a stretch refuses a size though it has so many seats."""
    return stretch[1] >= size and refuses(rule, stretch, size)


def lone_sizes(rule, stretch):
    """The sizes for which a stretch is lone, ascending."""
    return [size for size in rule.sizes if _is_lone(rule, stretch, size)]


def lone_play(rule, stretch, size):
    """A play with the fewest sales behind which a free stretch is lone for a size, or None."""
    check_size(rule, size)
    found = ways(rule, stretch)
    for part in found:
        if _is_lone(rule, part, size):
            return play_to(found, part)
    return None


def is_never_lone(rule, stretch, size, thing):
    """Whether thing, any value, is a closed list that has the stretch and none that is lone for the size."""
    check_size(rule, size)
    if not is_closed(rule, thing) or (stretch[1] > 0 and stretch not in thing):
        return False
    return not any([_is_lone(rule, part, size) for part in thing])


def lone_lengths(rule, left, right, size):
    """For which lengths a stretch that is lone for a size comes of one with two ends: (start, period, truths)."""
    check_size(rule, size)
    # From the span on no stretch refuses anything.
    some = [(one, length, other) for one, other in pairs_within(left, right) for length in range(rule.span())]
    return truths_round(rule, left, right, [stretch for stretch in some if _is_lone(rule, stretch, size)])


def _sold_out(rule, plan, play, size):
    """The play with so many more sales of a size that all stretches refuse it."""
    waiting = behind(rule, plan, play)
    more = []
    while waiting:
        row, seat, stretch = waiting.pop()
        befores = offered(rule, stretch, size)
        if befores:
            left, right = parts(stretch, size, befores[0])
            more.append((row, seat + befores[0], size))
            waiting.append((row, seat, left))
            waiting.append((row, seat + befores[0] + size, right))
    return play + more


def hall_refusal(rule, plan, size):
    """A play behind which all stretches refuse a size though one of them has so many seats, or None."""
    for row, seat, stretch in plan.stretches():
        play = lone_play(rule, stretch, size)
        if play is not None:
            return _sold_out(rule, plan, [(row, seat + first, other) for first, other in play], size)
    return None
