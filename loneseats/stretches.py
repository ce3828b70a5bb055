"""Stretches of free seats, and what a choice leaves of them."""

from loneseats.errors import NoChoice
from loneseats.kinds import ENDS, is_number, is_size


def fits(stretch, size, before):
    """Whether a party of this size finds room in the stretch behind so many free seats."""
    return is_size(size) and is_number(before) and size + before <= stretch[1]


def parts(stretch, size, before):
    """The two stretches that such a choice leaves."""
    if not fits(stretch, size, before):
        raise NoChoice()
    left, length, right = stretch
    return (left, before, "sold"), ("sold", length - size - before, right)


def turned(stretch):
    """The stretch with its ends exchanged."""
    left, length, right = stretch
    return right, length, left


def wholes(length):
    """The nine stretches of a length, ascending."""
    return [(left, length, right) for left in ENDS for right in ENDS]
