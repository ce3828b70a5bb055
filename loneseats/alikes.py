"""Rules that are alike: they offer the same choices wherever plays by both of them can come to."""

from loneseats.choices import sales
from loneseats.comes import play_to, ways
from loneseats.errors import BadSale
from loneseats.kinds import is_number, is_stretch
from loneseats.papers import all_pairs
from loneseats.splits import Splits
from loneseats.totals import left_behind

# Rows of at most so many seats decide it.
MOST_SEATS = 60
ROW_ENDS = ("pillar", "wall")


def _are_unlike(one, other, stretch):
    """Whether two rules offer unlike choices in a stretch."""
    return sales(one, stretch) != sales(other, stretch)


class Partings:
    """Which stretches lead to unlike choices, by plays of two rules, length by length.

    Up to the first stretch with unlike choices both rules offer the same, so it is enough to ask what comes by one.
    For a size of both rules the rest counts, the seats that the party leaves free, and not the size.
    """

    def __init__(self, one, other):
        self._both = [size for size in one.sizes if size in other.sizes]
        self._alone = [[size for size in rule.sizes if size not in self._both] for rule in (one, other)]
        self._splits = {pair: (Splits(one, *pair), Splits(other, *pair)) for pair in all_pairs()}
        self._truths = {pair: [] for pair in all_pairs()}
        self._rests = {pair: [] for pair in all_pairs()}

    def grow(self, length):
        """Finds the truths of all stretches of a length; those of the shorter ones are known."""
        for pair in all_pairs():
            rests = self._rests[pair]
            if length > 0:
                rests.append(self._leads(pair, length - 1))
            leads = any([rests[length - size] for size in self._both if size <= length])
            self._truths[pair].append(leads or self._offers_alone(pair, length))

    def _leads(self, pair, rest):
        """Whether choices that leave so many seats free are unlike, or one of them leaves a part that leads to such."""
        one, other = self._splits[pair]
        found = one.offered(rest)
        if found != other.offered(rest):
            return True
        left, right = pair
        befores, afters = self._truths[(left, "sold")], self._truths[("sold", right)]
        return any([befores[before] or afters[rest - before] for before in found])

    def _offers_alone(self, pair, length):
        """Whether one of the rules offers a choice for a size that the other one has not."""
        for splits, sizes in zip(self._splits[pair], self._alone):
            if any([splits.offered(length - size) for size in sizes]):
                return True
        return False

    def row(self, length):
        """A row of a length that leads to unlike choices, or None."""
        for left in ROW_ENDS:
            for right in ROW_ENDS:
                if self._truths[(left, right)][length]:
                    return left, length, right
        return None


def _shortest_row(one, other):
    """A shortest row of which plays by both rules lead to unlike choices, or None."""
    partings = Partings(one, other)
    for length in range(MOST_SEATS + 1):
        partings.grow(length)
        row = partings.row(length)
        if row is not None:
            return row
    return None


def alike(one, other):
    """Whether two rules offer the same choices wherever plays of rows by both of them can come to."""
    return _shortest_row(one, other) is None


def parting(one, other):
    """Where two rules part: a tuple (row, play, seat, stretch) with a shortest row, or None."""
    row = _shortest_row(one, other)
    if row is None:
        return None
    found = ways(one, row)
    # Those that need fewer sales stand first, so no stretch with unlike choices is passed on the way to the first one.
    part = [stretch for stretch in found if _are_unlike(one, other, stretch)][0]
    play = play_to(found, part)
    seat = [first for first, stretch in left_behind(one, row, play) if stretch == part][0]
    return row, play, seat, part


def _leaves(rule, row, play, place):
    """Whether a list is a play of a row by a rule that leaves a stretch, told by (seat, stretch)."""
    try:
        free = left_behind(rule, row, play)
    except BadSale:
        return False
    return place in free


def is_parting(one, other, thing):
    """Whether thing, any value, tells where two rules part, in the shortest row or in another one."""
    if not isinstance(thing, tuple) or len(thing) != 4:
        return False
    row, play, seat, stretch = thing
    if not is_stretch(row) or row[0] not in ROW_ENDS or row[2] not in ROW_ENDS or row[1] > MOST_SEATS:
        return False
    if not isinstance(play, list) or not is_number(seat) or not is_stretch(stretch):
        return False
    place = (seat, stretch)
    return _leaves(one, row, play, place) and _leaves(other, row, play, place) and _are_unlike(one, other, stretch)
