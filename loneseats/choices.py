"""Which choices a rule offers in a stretch."""

from loneseats.errors import NoChoice, NoSize
from loneseats.kinds import is_choice, is_size
from loneseats.stretches import fits


def has_size(rule, thing):
    """Whether thing, any value, is a size of the rule."""
    return is_size(thing) and thing in rule.sizes


def check_size(rule, size):
    """Raises an error for any value that is no size of the rule."""
    if not has_size(rule, size):
        raise NoSize(size)


def _bad_befores(rule, stretch, size):
    """The befores that make a choice bad, also such as do not fit, in any order."""
    left, length, right = stretch
    return rule.bad_at(left) + [length - size - after for after in rule.bad_at(right)]


def possible(rule, stretch, size):
    """The befores of the possible choices, ascending."""
    check_size(rule, size)
    last = stretch[1] - size
    if rule.where == "side" and last > 0:
        return [0, last]
    return list(range(last + 1))


def let(rule, stretch, size):
    """The befores of the choices that the rule lets, ascending."""
    found = possible(rule, stretch, size)
    bad = _bad_befores(rule, stretch, size)
    good = [before for before in found if before not in bad]
    return found if rule.soft and not good else good


def offered(rule, stretch, size):
    """The befores of the choices that the rule offers, ascending."""
    found = let(rule, stretch, size)
    return found if rule.offer == 0 else found[:rule.offer]


def refuses(rule, stretch, size):
    """Whether no choice of this size is offered."""
    return not offered(rule, stretch, size)


def is_bad(rule, stretch, size, before):
    """Whether a choice leaves a bad length beside an end, wherever it stands."""
    check_size(rule, size)
    if not fits(stretch, size, before):
        raise NoChoice()
    return before in _bad_befores(rule, stretch, size)


def sales(rule, stretch):
    """All offered choices, ascending, as tuples (size, before)."""
    return [(size, before) for size in rule.sizes for before in offered(rule, stretch, size)]


def is_sold(rule, stretch, thing):
    """Whether thing, any value, is an offered choice."""
    if not is_choice(thing):
        return False
    size, before = thing
    return has_size(rule, size) and before in offered(rule, stretch, size)


def is_stuck(rule, stretch):
    """Whether no choice is offered for any size."""
    for size in rule.sizes:
        if not refuses(rule, stretch, size):
            return False
    return True
