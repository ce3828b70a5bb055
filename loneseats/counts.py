"""Known parties that come in any order: how many of them are turned away, and in which orders none is.

A step is a tuple ("sell", row, seat, size) or ("away", size). Parties that are still to come are told by the ascending
tuple of their sizes, each as often as it comes.
"""

from loneseats.choices import offered
from loneseats.kinds import is_sale, is_size
from loneseats.plays import free_behind
from loneseats.stretches import parts
from loneseats.totals import bit_numbers, like_ends


def _parties(counts):
    """The parties of the counts."""
    return tuple([size for size in sorted(counts) for _ in range(counts[size])])


def _nexts(waiting):
    """The different sizes that can come next, ascending, each with the parties behind it."""
    return [(size, waiting[:at] + waiting[at + 1:]) for at, size in enumerate(waiting)
            if at == 0 or waiting[at - 1] != size]


def _places(free):
    """The stretches of tuples (row, seat, stretch)."""
    return [stretch for row, seat, stretch in free]


class Seating:
    """What parties can come to in free stretches, wherever these are. What was asked once is kept.

    Free stretches are told by a tuple: those that are too short for any party are left out, ends with the same bad
    lengths are taken for one another, and stretches for their turned ones where all choices let are offered.
    """

    def __init__(self, rule):
        self._rule = rule
        self._like = like_ends(rule)
        self._parts = {}
        self._behind = {}
        self._aways = {}
        self._until = {}

    def _plain(self, stretch):
        """The stretch that is taken for this one."""
        left, length, right = stretch
        one, other = self._like[left], self._like[right]
        return (other, length, one) if self._rule.offer == 0 and other < one else (one, length, other)

    def bare(self, stretches):
        """What tells some free stretches."""
        return tuple(sorted([self._plain(stretch) for stretch in stretches if stretch[1] >= self._rule.sizes[0]]))

    def _parts_of(self, stretch, size):
        """The different parts that sales of a size leave of a stretch."""
        key = (stretch, size)
        if key not in self._parts:
            found = {}
            for before in offered(self._rule, stretch, size):
                found[self.bare(list(parts(stretch, size, before)))] = True
            self._parts[key] = [list(some) for some in found]
        return self._parts[key]

    def behind(self, free, size):
        """The different free stretches that sales of a size leave; none if it is refused."""
        key = (free, size)
        if key not in self._behind:
            found = {}
            for at, stretch in enumerate(free):
                if at == 0 or free[at - 1] != stretch:
                    others = list(free[:at]) + list(free[at + 1:])
                    for some in self._parts_of(stretch, size):
                        found[tuple(sorted(others + some))] = True
            self._behind[key] = list(found)
        return self._behind[key]

    def away_bits(self, free, waiting):
        """An integer with a bit for each number of parties that can be turned away, in any order."""
        if not waiting:
            return 1
        key = (free, waiting)
        if key not in self._aways:
            found = 0
            for size, later in _nexts(waiting):
                afters = self.behind(free, size)
                for after in afters:
                    found = found | self.away_bits(after, later)
                if not afters:
                    found = found | (self.away_bits(free, later) << 1)
            self._aways[key] = found
        return self._aways[key]

    def until_away(self, free, waiting):
        """The fewest steps up to a party that is turned away, this one too; 0 if none ever is."""
        nexts = _nexts(waiting)
        if any([not self.behind(free, size) for size, _ in nexts]):
            return 1
        key = (free, waiting)
        if key not in self._until:
            found = [self.until_away(after, later) for size, later in nexts for after in self.behind(free, size)]
            some = [many for many in found if many > 0]
            self._until[key] = 1 + min(some) if some else 0
        return self._until[key]

    def all_behind(self, frees, size):
        """The different free stretches that sales of a size leave of some; None if it is refused in one of them."""
        found = {}
        for free in frees:
            afters = self.behind(free, size)
            if not afters:
                return None
            for after in afters:
                found[after] = True
        return list(found)


def _steps(rule, free, waiting):
    """All steps that can be made, each with the free stretches and the parties behind it."""
    found = []
    for size, later in _nexts(waiting):
        sold = [(row, seat + before, size) for row, seat, stretch in free for before in offered(rule, stretch, size)]
        found.extend([(("sell", *sale), free_behind(rule, free, [sale]), later) for sale in sold])
        if not sold:
            found.append((("away", size), free, later))
    return found


def _is_step(thing):
    """Whether thing, any value, is a step by its form."""
    if not isinstance(thing, tuple) or len(thing) == 0 or not isinstance(thing[0], str):
        return False
    if thing[0] == "away":
        return len(thing) == 2 and is_size(thing[1])
    return thing[0] == "sell" and is_sale(thing[1:])


def is_script(rule, plan, counts, thing):
    """Whether thing, any value, is a script of all parties."""
    if not isinstance(thing, list):
        return False
    free, waiting = plan.stretches(), _parties(counts)
    for member in thing:
        if not _is_step(member):
            return False
        behind = [(after, later) for step, after, later in _steps(rule, free, waiting) if step == member]
        if not behind:
            return False
        free, waiting = behind[0]
    return not waiting


def aways(rule, plan, counts):
    """The numbers of parties that are turned away in some script, ascending."""
    seating = Seating(rule)
    return bit_numbers(seating.away_bits(seating.bare(_places(plan.stretches())), _parties(counts)))


def surely_seated(rule, plan, counts):
    """Whether no party is turned away in any script."""
    return aways(rule, plan, counts) == [0]


def _can_be(seating, free, waiting, many):
    """Whether just so many of the parties that are still to come can be turned away."""
    return many in bit_numbers(seating.away_bits(seating.bare(_places(free)), waiting))


def _step_with(seating, steps, many):
    """The first of some steps, told as by _steps, behind which just so many are turned away, it being counted."""
    for step, free, waiting in steps:
        left = many - 1 if step[0] == "away" else many
        if _can_be(seating, free, waiting, left):
            return step, free, waiting, left
    return None


def script_with(rule, plan, counts, many):
    """A script in which just so many parties are turned away, or None."""
    seating = Seating(rule)
    free, waiting = plan.stretches(), _parties(counts)
    if not _can_be(seating, free, waiting, many):
        return None
    script = []
    while waiting:
        step, free, waiting, many = _step_with(seating, _steps(rule, free, waiting), many)
        script.append(step)
    return script


def _step_until(seating, steps, many):
    """The first of some steps, told as by _steps, with which so many steps lead to a party that is turned away."""
    for step, free, waiting in steps:
        if step[0] == "away" and many == 1:
            return step, free, waiting
        if step[0] == "sell" and seating.until_away(seating.bare(_places(free)), waiting) == many - 1 > 0:
            return step, free, waiting
    return None


def first_refusal(rule, plan, counts):
    """The shortest beginning of a script that ends with a party being turned away, or None."""
    seating = Seating(rule)
    free, waiting = plan.stretches(), _parties(counts)
    many = seating.until_away(seating.bare(_places(free)), waiting)
    if many == 0:
        return None
    script = []
    while many > 0:
        step, free, waiting = _step_until(seating, _steps(rule, free, waiting), many)
        script.append(step)
        many -= 1
    return script


def aways_in_order(rule, plan, sizes):
    """The numbers of parties that can be turned away if they come in this order, ascending."""
    seating = Seating(rule)
    # The free stretches that can be left so far, each with a bit for each number of parties turned away on the way.
    frees = {seating.bare(_places(plan.stretches())): 1}
    for size in sizes:
        found = {}
        for free, bits in frees.items():
            afters = seating.behind(free, size)
            for after in afters:
                found[after] = found.get(after, 0) | bits
            if not afters:
                found[free] = found.get(free, 0) | (bits << 1)
        frees = found
    together = 0
    for bits in frees.values():
        together = together | bits
    return bit_numbers(together)


def _good_order(seating, frees, waiting):
    """The least order in which all parties are seated for sure, whichever of some free stretches are left, or None."""
    if not waiting:
        return []
    for size, later in _nexts(waiting):
        afters = seating.all_behind(frees, size)
        if afters is not None:
            order = _good_order(seating, afters, later)
            if order is not None:
                return [size] + order
    return None


def good_order(rule, plan, counts):
    """The least order in which no party is ever turned away, as a list of sizes, or None."""
    seating = Seating(rule)
    return _good_order(seating, [seating.bare(_places(plan.stretches()))], _parties(counts))
