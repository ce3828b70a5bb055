"""The greatest and the least totals of single stretches, and the plays that come to them.

A sale in a stretch is a tuple (seat, size), its seats being counted from 0.
"""

from loneseats.errors import BadSale
from loneseats.plays import free_behind, tally
from loneseats.splits import Splits
from loneseats.stretches import parts
from loneseats.worths import check_until, may_end


def pairs_within(left, right):
    """The ends of all stretches that can come of one with these ends, each ahead of those that lead to it."""
    found = []
    for pair in [("sold", "sold"), (left, "sold"), ("sold", right), (left, right)]:
        if pair not in found:
            found.append(pair)
    return found


def like_ends(rule):
    """The dict from each end to an end with the same bad lengths, which is one for all of them."""
    sold, pillar, wall = rule.bad_at("sold"), rule.bad_at("pillar"), rule.bad_at("wall")
    pillar_like = "sold" if pillar == sold else "pillar"
    wall_like = pillar_like if wall == pillar else "wall"
    return {"sold": "sold", "pillar": pillar_like, "wall": "sold" if wall == sold else wall_like}


class Bids:
    """The prices of a rule and a worth. With is_least they are negated, so the greatest totals are those asked, too.

    Behind a choice only the rest counts, the seats that the party leaves free; so what both parts of a stretch come to
    is kept by rests, None where nothing is offered.
    """

    def __init__(self, rule, worth, is_least):
        self.sign = -1 if is_least else 1
        self.priced = [(size, self.sign * worth.price(size)) for size in rule.sizes]
        self._seat = self.sign * worth.free
        self._last = worth.until

    def most(self, rests, length):
        """What a stretch comes to at most, by what comes of its rests."""
        found = [price + rests[length - size] for size, price in self.priced
                 if size <= length and rests[length - size] is not None]
        is_refused = not found
        if self._last > 0:
            is_refused = self._last > length or rests[length - self._last] is None
        return max(found + [self._seat * length]) if is_refused else max(found)


def most_of_rest(befores, afters, found, rest):
    """What both parts of a rest come to at most with the befores found, None without any."""
    return max([befores[before] + afters[rest - before] for before in found]) if found else None


class Tables:
    """The totals of all stretches with some ends, as far as they have been grown, kept as Bids has them.

    Ends with the same bad lengths have the same totals, so one of them stands for all.

    Choices that leave both parts as many seats as the span need not be asked. Each play does a sale in the right part
    then, as it refuses nothing. This sale can as well be the first one: it leaves the same at its right, and at its
    left what the other sale parts just as well. So the right part can be made shorter until it is below the span.
    """

    def __init__(self, rule, worth, is_least):
        self._rule = rule
        self._bids = Bids(rule, worth, is_least)
        self._span = rule.span()
        self._like = like_ends(rule)
        self._splits = {}
        self._totals = {}
        self._rests = {}

    def grow(self, left, right, upto):
        """Finds the totals of all stretches of at most so many seats that can come of such with these ends."""
        for pair in pairs_within(self._like[left], self._like[right]):
            if pair not in self._totals:
                self._splits[pair] = Splits(self._rule, pair[0], pair[1])
                self._totals[pair] = []
                self._rests[pair] = []
            self._grow_pair(pair, upto)

    def _grow_pair(self, pair, upto):
        """Finds the totals of a pair, as those of its parts are known."""
        left, right = pair
        splits, totals, rests = self._splits[pair], self._totals[pair], self._rests[pair]
        befores, afters = self._totals[(left, "sold")], self._totals[("sold", right)]
        known = len(totals)
        for length in range(known, upto + 1):
            if length > 0:
                rests.append(most_of_rest(befores, afters, splits.outer(length - 1, self._span), length - 1))
            totals.append(self._bids.most(rests, length))

    def kept(self):
        """The lists of the totals as they are kept, one for each pair of ends that are unlike."""
        return list(self._totals.values())

    def told(self, left, right, upto):
        """The list of the totals of the stretches with these ends and at most so many seats, which are grown."""
        totals = self._totals[(self._like[left], self._like[right])]
        return [self._bids.sign * total for total in totals[:upto + 1]]

    def choice(self, stretch):
        """A choice with which a stretch comes to its total; None if it does so only as it is."""
        left, length, right = stretch
        pair = (self._like[left], self._like[right])
        rests, total = self._rests[pair], self._totals[pair][length]
        for size, price in self._bids.priced:
            if size <= length and rests[length - size] is not None and price + rests[length - size] == total:
                return size, self._before(pair, length - size)
        return None

    def _before(self, pair, rest):
        """A before with which both parts of a rest come to what they come to at most."""
        left, right = pair
        befores, afters = self._totals[(left, "sold")], self._totals[("sold", right)]
        most = self._rests[pair][rest]
        found = self._splits[pair].outer(rest, self._span)
        return [before for before in found if befores[before] + afters[rest - before] == most][0]

    def play(self, stretch):
        """A play with which a stretch comes to its total, of tuples (seat, size)."""
        found = []
        waiting = [(0, stretch)]
        while waiting:
            first, place = waiting.pop()
            choice = self.choice(place)
            if choice is not None:
                size, before = choice
                one, other = parts(place, size, before)
                found.append((first + before, size))
                waiting.append((first, one))
                waiting.append((first + before + size, other))
        return found


def table(rule, worth, left, right, upto, *, is_least=False):
    """The totals of the stretches with two ends and the lengths from 0 to upto."""
    check_until(rule, worth)
    tables = Tables(rule, worth, is_least)
    tables.grow(left, right, upto)
    return tables.told(left, right, upto)


def greatest(rule, worth, stretch):
    """The greatest total of a stretch."""
    left, length, right = stretch
    return table(rule, worth, left, right, length)[length]


def least(rule, worth, stretch):
    """The least total of a stretch."""
    left, length, right = stretch
    return table(rule, worth, left, right, length, is_least=True)[length]


def bit_numbers(bits):
    """The ascending list of the numbers of the bits that are set in an integer."""
    return [number for number in range(bits.bit_length()) if bits >> number & 1]


def _rest_bits(splits, befores, afters, rest):
    """An integer with a bit for each number that both parts of a rest come to; 0 where nothing is offered."""
    found = 0
    for before in splits.offered(rest):
        for number in bit_numbers(afters[rest - before]):
            found = found | (befores[before] << number)
    return found


def _total_bits(rule, worth, rests, length):
    """An integer with a bit for each total of a stretch, by what comes of its rests."""
    found = 0
    is_refused = True
    for size in rule.sizes:
        if size <= length and rests[length - size] > 0:
            found = found | (rests[length - size] << worth.price(size))
            is_refused = is_refused and worth.until not in (0, size)
    return found | (1 << worth.free * length) if is_refused else found


def totals_of(rule, worth, stretch):
    """The different totals of all plays of a stretch that may end, ascending."""
    check_until(rule, worth)
    left, length, right = stretch
    known = {}
    for one, other in pairs_within(left, right):
        splits = Splits(rule, one, other)
        known[(one, other)] = found = []
        rests = []
        for many in range(length + 1):
            if many > 0:
                rests.append(_rest_bits(splits, known[(one, "sold")], known[("sold", other)], many - 1))
            found.append(_total_bits(rule, worth, rests, many))
    return bit_numbers(known[(left, right)][length])


def play_for(rule, worth, stretch, *, is_least=False):
    """A play of a stretch that comes to its greatest or least total and may end."""
    check_until(rule, worth)
    left, length, right = stretch
    tables = Tables(rule, worth, is_least)
    tables.grow(left, right, length)
    return tables.play(stretch)


def in_row(play):
    """The members of a play of a stretch, any values, as sales of a row 0; what is no sale stays none."""
    return [(0, *member) if isinstance(member, tuple) else member for member in play]


def _free_within(rule, stretch, play):
    """The tuples (0, seat, stretch) of the free stretches behind a play of a stretch."""
    free = [(0, 0, stretch)] if stretch[1] > 0 else []
    return free_behind(rule, free, in_row(play))


def left_behind(rule, stretch, play):
    """The tuples (seat, stretch) of the free stretches behind a play of a stretch, ascending."""
    return [(seat, part) for row, seat, part in _free_within(rule, stretch, play)]


def total_of(rule, worth, stretch, play):
    """The total of a play of a stretch that may end."""
    check_until(rule, worth)
    free = [part for seat, part in left_behind(rule, stretch, play)]
    if not all([may_end(rule, worth, part) for part in free]):
        raise BadSale(len(play))
    return worth.total(tally(in_row(play)), sum([part[1] for part in free]))
