"""Which choices a rule offers in a stretch."""

from loneseats.errors import NoChoice, NoSize
from loneseats.kinds import is_choice, is_size
from loneseats.splits import Splits, possible_befores
from loneseats.stretches import fits


def has_size(rule, thing):
    """Whether thing, any value, is a size of the rule."""
    return is_size(thing) and thing in rule.sizes


def check_size(rule, size):
    """Raises an error for any value that is no size of the rule."""
    if not has_size(rule, size):
        raise NoSize(size)


def possible(rule, stretch, size):
    """The befores of the possible choices, ascending."""
    check_size(rule, size)
    return possible_befores(rule.where == "side", stretch[1] - size)


def let(rule, stretch, size):
    """The befores of the choices that the rule lets, ascending."""
    check_size(rule, size)
    left, length, right = stretch
    return Splits(rule, left, right).let(length - size)


def offered(rule, stretch, size):
    """The befores of the choices that the rule offers, ascending."""
    check_size(rule, size)
    left, length, right = stretch
    return Splits(rule, left, right).offered(length - size)


def refuses(rule, stretch, size):
    """Whether no choice of this size is offered."""
    return not offered(rule, stretch, size)


def is_bad(rule, stretch, size, before):
    """Whether a choice leaves a bad length beside an end, wherever it stands."""
    check_size(rule, size)
    if not fits(stretch, size, before):
        raise NoChoice()
    left, length, right = stretch
    return Splits(rule, left, right).is_bad(length - size, before)


def sales(rule, stretch):
    """All offered choices, ascending, as tuples (size, before)."""
    left, length, right = stretch
    splits = Splits(rule, left, right)
    return [(size, before) for size in rule.sizes for before in splits.offered(length - size)]


def is_sold(rule, stretch, thing):
    """Whether thing, any value, is an offered choice."""
    if not is_choice(thing):
        return False
    size, before = thing
    left, length, right = stretch
    # What does not fit is told ahead, as plays ask each free stretch of a row for a sale.
    return has_size(rule, size) and size + before <= length and Splits(rule, left, right).has(length - size, before)


def is_stuck(rule, stretch):
    """Whether no choice is offered for any size."""
    left, length, right = stretch
    splits = Splits(rule, left, right)
    for size in rule.sizes:
        if splits.offered(length - size):
            return False
    return True
