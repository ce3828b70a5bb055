"""How the seats that a party leaves free are parted. The size of the party does not matter there."""

GREATEST_BAD = 5


def possible_befores(is_beside, rest):
    """The befores of the possible choices, at the sides alone or not, ascending; none if rest is below 0."""
    if is_beside and rest > 0:
        return [0, rest]
    return list(range(rest + 1))


class Splits:
    """The befores of the choices in stretches with two ends, by the rest: how many seats the party leaves free."""

    def __init__(self, rule, left, right):
        self._near = rule.bad_at(left)
        self._far = rule.bad_at(right)
        self._is_soft = rule.soft
        self._is_beside = rule.where == "side"
        self._many = rule.offer

    def is_bad(self, rest, before):
        """Whether a choice leaves a bad length beside an end."""
        return before in self._near or rest - before in self._far

    def _let_of(self, rest, found):
        """Those of the possible befores found that are let; found are all, or so many that one of them is not bad."""
        near, far = self._near, self._far
        if not near and not far:
            return found
        good = [before for before in found if before not in near and rest - before not in far]
        return found if self._is_soft and not good else good

    def let(self, rest):
        """The befores of the choices let, ascending."""
        return self._let_of(rest, possible_befores(self._is_beside, rest))

    def offered(self, rest):
        """The befores of the choices offered, ascending."""
        if self._many == 0:
            return self.let(rest)
        # So many befores, the least ones, are enough: at each end at most five of them are bad.
        enough = self._many + 2 * GREATEST_BAD
        found = possible_befores(self._is_beside, rest if self._is_beside else min(rest, enough - 1))
        return self._let_of(rest, found)[:self._many]

    def has(self, rest, before):
        """Whether a choice is offered; before is a number."""
        if self._many == 0 and not self._is_beside and before <= rest and not self.is_bad(rest, before):
            return True
        return before in self.offered(rest)

    def is_wide(self, rest, width):
        """Whether choices leave both parts width seats or more, which is above all bad lengths, and all are offered."""
        return self._many == 0 and not self._is_beside and rest >= 2 * width

    def outer(self, rest, width):
        """The befores of the choices offered that leave one part less than width seats; all, if it is not wide."""
        if rest < 2 * width or not self.is_wide(rest, width):
            return self.offered(rest)
        return self._let_of(rest, list(range(width)) + list(range(rest - width + 1, rest + 1)))
