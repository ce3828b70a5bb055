"""Rules that follow one another: each has a list of sales of its own, and the last one says where a play may end.

The sales of one part of a stretch can all be done ahead of a change of the rule, whatever the other part does; so the
totals of parts add up, as with one rule.
"""

from loneseats.errors import BadSale, BadStep
from loneseats.plays import free_behind, tally
from loneseats.splits import Splits
from loneseats.stretches import parts
from loneseats.totals import Bids, in_row, most_of_rest, pairs_within
from loneseats.worths import check_until, may_end


def _as_they_are(rule, worth, pairs, upto, sign):
    """The dict from pairs of ends to the totals of the stretches that may end as they are, None for the others."""
    return {(left, right): [sign * worth.free * length if may_end(rule, worth, (left, length, right)) else None
                            for length in range(upto + 1)] for left, right in pairs}


def _with_rule(rule, bids, later):
    """The dict from pairs to the totals with one more rule, which comes ahead of what is told by later."""
    found = {}
    for (left, right), lasts in later.items():
        found[(left, right)] = totals = []
        befores, afters = found[(left, "sold")], found[("sold", right)]
        splits = Splits(rule, left, right)
        rests = []
        for length, last in enumerate(lasts):
            if length > 0:
                rests.append(most_of_rest(befores, afters, splits.offered(length - 1), length - 1))
            some = [price + rests[length - size] for size, price in bids.priced
                    if size <= length and rests[length - size] is not None]
            totals.append(max(some if last is None else some + [last]))
    return found


class Stages:
    """The totals of all stretches that can come of one with some ends, by each rule and those behind it.

    They are kept as Bids has them, and behind those of the last rule stand those of the stretches that may end.
    """

    def __init__(self, rules, worth, left, right, upto, is_least):
        check_until(rules[-1], worth)
        self._rules = rules
        self._bids = [Bids(rule, worth, is_least) for rule in rules]
        self.sign = self._bids[0].sign
        self._totals = [_as_they_are(rules[-1], worth, pairs_within(left, right), upto, self.sign)]
        for step in reversed(range(len(rules))):
            self._totals.insert(0, _with_rule(rules[step], self._bids[step], self._totals[0]))

    def total(self, step, stretch):
        """What a stretch comes to at most by the rules from a step on; None if it may not end as it is."""
        left, length, right = stretch
        return self._totals[step][(left, right)][length]

    def choice(self, step, stretch):
        """A choice of a step's rule with which a stretch comes to its total; None if it does so without any."""
        left, length, right = stretch
        most = self.total(step, stretch)
        if self.total(step + 1, stretch) == most:
            return None
        splits = Splits(self._rules[step], left, right)
        return [(size, before) for size, price in self._bids[step].priced for before in splits.offered(length - size)
                if price + self._of_parts(step, parts(stretch, size, before)) == most][0]

    def _of_parts(self, step, both):
        """What two parts come to together."""
        return sum([self.total(step, part) for part in both])


def late_table(rules, worth, left, right, upto, *, is_least=False):
    """The totals of the stretches with two ends and the lengths from 0 to upto, by rules that follow one another."""
    stages = Stages(rules, worth, left, right, upto, is_least)
    return [stages.sign * stages.total(0, (left, length, right)) for length in range(upto + 1)]


def _sales_of_step(stages, step, free):
    """The sales of a step in some free stretches, told by tuples (seat, stretch), and those that are free behind it."""
    sold, left_free = [], []
    waiting = list(free)
    while waiting:
        first, stretch = waiting.pop()
        choice = stages.choice(step, stretch)
        if choice is None:
            left_free.append((first, stretch))
        else:
            size, before = choice
            one, other = parts(stretch, size, before)
            sold.append((first + before, size))
            waiting.append((first, one))
            waiting.append((first + before + size, other))
    return sold, left_free


def late_play(rules, worth, stretch, *, is_least=False):
    """A play, a list of sales for each rule, that comes to the greatest or least total and may end."""
    left, length, right = stretch
    stages = Stages(rules, worth, left, right, length, is_least)
    found = []
    free = [(0, stretch)]
    for step in range(len(rules)):
        sold, free = _sales_of_step(stages, step, free)
        found.append(sold)
    return found


def late_total(rules, worth, stretch, plays):
    """The total of a play that may end, plays being a list of any values for each rule."""
    check_until(rules[-1], worth)
    free = [(0, 0, stretch)] if stretch[1] > 0 else []
    for step, play in enumerate(plays):
        try:
            free = free_behind(rules[step], free, in_row(play))
        except BadSale as why:
            raise BadSale((step, why.at))
    if not all([may_end(rules[-1], worth, part) for row, seat, part in free]):
        raise BadStep(len(plays))
    sold = [sale for play in plays for sale in in_row(play)]
    return worth.total(tally(sold), sum([part[1] for row, seat, part in free]))
