"""Which stretches come of which others: what plays leave as free stretches.

A sale in a stretch is a tuple (seat, size), its seats being counted from 0. Stretches of no seats do not count.
"""

from math import gcd

from loneseats.forms import common_start, own_round
from loneseats.items import beside
from loneseats.kinds import ENDS, is_stretch
from loneseats.splits import Splits
from loneseats.totals import pairs_within

MOST_LISTED = 400


def _parts_of(splits, whole, size):
    """The parts with seats that the choices of a size leave, each as (part, (whole, size, before, is_right))."""
    left, length, right = whole
    rest = length - size
    found = []
    for before in splits.offered(rest):
        if before > 0:
            found.append(((left, before, "sold"), (whole, size, before, False)))
        if before < rest:
            found.append((("sold", rest - before, right), (whole, size, before, True)))
    return found


def ways(rule, stretch):
    """The dict from the stretches that come of one, those that need fewer sales first, to how they come.

    It is None for the stretch itself, otherwise (whole, size, before, is_right): a part of which stretch it is.
    """
    found = {stretch: None} if stretch[1] > 0 else {}
    waiting = list(found)
    # The parts depend on the ends and the rest alone, not on the size.
    asked = set()
    at = 0
    while at < len(waiting):
        whole = waiting[at]
        left, length, right = whole
        splits = Splits(rule, left, right)
        for size in rule.sizes:
            if (left, length - size, right) not in asked:
                asked.add((left, length - size, right))
                for part, way in _parts_of(splits, whole, size):
                    if part not in found:
                        found[part] = way
                        waiting.append(part)
        at += 1
    return found


def play_to(found, part):
    """The play by which a stretch comes, as ways told it."""
    steps = []
    while found[part] is not None:
        part, size, before, is_right = found[part]
        steps.append((size, before, is_right))
    play = []
    first = 0
    for size, before, is_right in reversed(steps):
        play.append((first + before, size))
        first += before + size if is_right else 0
    return play


def comes(rule, stretch):
    """All stretches that come of one, ascending."""
    return sorted(list(ways(rule, stretch)))


def way_to(rule, stretch, other):
    """A play with the fewest sales behind which the other stretch is free; None if it does not come."""
    found = ways(rule, stretch)
    return play_to(found, other) if other in found else None


def _has_parts(splits, lefts, rights, rest):
    """Whether the lengths of all parts with seats of a rest are among those that are held."""
    found = splits.offered(rest)
    return (all([before == 0 or before in lefts for before in found])
            and all([before == rest or rest - before in rights for before in found]))


def is_closed(rule, thing):
    """Whether thing, any value, is a list of stretches of 1 to 400 seats that has all parts with seats of each."""
    if not isinstance(thing, list):
        return False
    if not all([is_stretch(member) and 1 <= member[1] <= MOST_LISTED for member in thing]):
        return False
    held = {(left, right): {} for left in ENDS for right in ENDS}
    for left, length, right in thing:
        held[(left, right)][length] = True
    for (left, right), lengths in held.items():
        splits, lefts, rights = Splits(rule, left, right), held[(left, "sold")], held[("sold", right)]
        rests = sorted(set([length - size for length in lengths for size in rule.sizes]))
        if not all([_has_parts(splits, lefts, rights, rest) for rest in rests]):
            return False
    return True


def _leads(befores, afters, found, rest):
    """1 if one of both parts of a rest has a truth, with one of the befores found, otherwise 0."""
    for before in found:
        if befores[before] or afters[rest - before]:
            return 1
    return 0


class Truths:
    """Of which stretches one of some wanted ones comes, as far as they have been grown: 1 if so, otherwise 0."""

    def __init__(self, rule, wanted):
        self._rule = rule
        self._wanted = {stretch: True for stretch in wanted}
        self._truths = {}
        self._rests = {}

    def grow(self, left, right, upto):
        """Finds the truths of all stretches of at most so many seats that can come of such with these ends."""
        for pair in pairs_within(left, right):
            if pair not in self._truths:
                self._truths[pair] = []
                self._rests[pair] = []
            self._grow_pair(pair, upto)

    def _grow_pair(self, pair, upto):
        """Finds the truths of a pair, as those of its parts are known."""
        left, right = pair
        splits, truths, rests = Splits(self._rule, left, right), self._truths[pair], self._rests[pair]
        befores, afters = self._truths[(left, "sold")], self._truths[("sold", right)]
        known = len(truths)
        for length in range(known, upto + 1):
            if length > 0:
                rests.append(_leads(befores, afters, splits.offered(length - 1), length - 1))
            is_wanted = 1 if (left, length, right) in self._wanted else 0
            truths.append(max([is_wanted] + [rests[length - size] for size in self._rule.sizes if size <= length]))

    def kept(self):
        """The lists of the truths, one for each pair of ends."""
        return list(self._truths.values())

    def told(self, left, right):
        """The list of the truths of a pair of ends."""
        return list(self._truths[(left, right)])


def truths_round(rule, left, right, wanted):
    """The tuple (start, period, truths): for which lengths one of the wanted stretches comes of one with two ends.

    Long stretches are left by an item each, so the lengths that lead to a stretch come round by what all items weigh.
    """
    period = 0
    for size in rule.sizes:
        for many in beside(rule):
            period = gcd(period, size + many)
    truths = Truths(rule, wanted)
    late = max([rule.span()] + [length + 1 for _, length, _ in wanted])
    late = common_start(rule, truths, [(left, right)], late, period, 0)
    numbers = truths.told(left, right)
    start, period = own_round(numbers, late, period)
    return start, period, tuple([number == 1 for number in numbers[:start + period]])


def lengths_of(rule, left, right, other):
    """For which lengths another stretch comes of one with two ends: a tuple (start, period, truths)."""
    return truths_round(rule, left, right, [other])
