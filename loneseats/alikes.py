"""Rules that are alike: they offer the same choices wherever plays by both of them can come to."""

from loneseats.choices import sales
from loneseats.comes import Truths, play_to, ways
from loneseats.errors import BadSale
from loneseats.kinds import is_number, is_stretch
from loneseats.stretches import wholes
from loneseats.totals import left_behind

# Rows of at most so many seats decide it.
MOST_SEATS = 60
ROW_ENDS = ("pillar", "wall")


def _are_unlike(one, other, stretch):
    """Whether two rules offer unlike choices in a stretch."""
    return sales(one, stretch) != sales(other, stretch)


def _parted_rows(one, other):
    """The tuples (length, left, right) of the rows of which plays by both rules lead to unlike choices.

    Up to the first stretch with unlike choices both rules offer the same, so it is enough to ask what comes by one.
    """
    unlike = [stretch for length in range(MOST_SEATS + 1) for stretch in wholes(length)
              if _are_unlike(one, other, stretch)]
    if not unlike:
        return []
    truths = Truths(one, unlike)
    found = []
    for left in ROW_ENDS:
        for right in ROW_ENDS:
            truths.grow(left, right, MOST_SEATS)
            found.extend([(length, left, right) for length, truth in enumerate(truths.told(left, right)) if truth == 1])
    return found


def alike(one, other):
    """Whether two rules offer the same choices wherever plays of rows by both of them can come to."""
    return not _parted_rows(one, other)


def parting(one, other):
    """Where two rules part: a tuple (row, play, seat, stretch) with a shortest row, or None."""
    rows = _parted_rows(one, other)
    if not rows:
        return None
    length, left, right = min(rows)
    row = (left, length, right)
    found = ways(one, row)
    # Those that need fewer sales stand first, so no stretch with unlike choices is passed on the way to the first one.
    part = [stretch for stretch in found if _are_unlike(one, other, stretch)][0]
    play = play_to(found, part)
    seat = [first for first, stretch in left_behind(one, row, play) if stretch == part][0]
    return row, play, seat, part


def _leaves(rule, row, play, place):
    """Whether a list is a play of a row by a rule that leaves a stretch, told by (seat, stretch)."""
    try:
        free = left_behind(rule, row, play)
    except BadSale:
        return False
    return place in free


def is_parting(one, other, thing):
    """Whether thing, any value, tells where two rules part, in the shortest row or in another one."""
    if not isinstance(thing, tuple) or len(thing) != 4:
        return False
    row, play, seat, stretch = thing
    if not is_stretch(row) or row[0] not in ROW_ENDS or row[2] not in ROW_ENDS or row[1] > MOST_SEATS:
        return False
    if not isinstance(play, list) or not is_number(seat) or not is_stretch(stretch):
        return False
    place = (seat, stretch)
    return _leaves(one, row, play, place) and _leaves(other, row, play, place) and _are_unlike(one, other, stretch)
