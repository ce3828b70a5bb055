"""Halls: a plan that is sold sale by sale, back and again."""

from loneseats.choices import check_size, sales
from loneseats.errors import BadSale, NoSale, Nothing
from loneseats.plays import free_behind


class Hall:
    """A plan, a rule, the sales that are done, and those that were taken back."""

    def __init__(self, plan, rule):
        self._plan = plan
        self._rule = rule
        self._log = []
        self._taken = []
        # The free stretches behind each beginning of the log, so that a sale can be taken back at once.
        self._frees = [plan.stretches()]

    @property
    def plan(self):
        """The plan."""
        return self._plan

    @property
    def rule(self):
        """The rule."""
        return self._rule

    def __eq__(self, other):
        return (isinstance(other, Hall) and self._plan == other._plan and self._rule == other._rule
                and self._log == other._log)

    def __len__(self):
        return len(self._log)

    def __iter__(self):
        return iter(self._log)

    def _do(self, sale):
        """Does a sale, any value, or raises an error if it is not offered."""
        try:
            free = free_behind(self._rule, self._frees[-1], [sale])
        except BadSale:
            raise NoSale(sale)
        self._log.append(sale)
        self._frees.append(free)

    def sell(self, row, seat, size):
        """Does a sale."""
        self._do((row, seat, size))
        self._taken = []

    def back(self):
        """Takes back the last sale, and returns it."""
        if not self._log:
            raise Nothing()
        sale = self._log.pop()
        self._frees.pop()
        self._taken.append(sale)
        return sale

    def again(self):
        """Does the sale anew that was taken back last, and returns it."""
        if not self._taken:
            raise Nothing()
        sale = self._taken.pop()
        self._do(sale)
        return sale

    def log(self):
        """The sales that are done, in order."""
        return list(self._log)

    def stretches(self):
        """The tuples (row, seat, stretch) of the free stretches, ascending."""
        return list(self._frees[-1])

    def sales(self):
        """All sales that are offered, ascending."""
        return sorted([(row, seat + before, size) for row, seat, stretch in self._frees[-1]
                       for size, before in sales(self._rule, stretch)])

    def seats(self):
        """How many seats are free."""
        return sum([stretch[1] for row, seat, stretch in self._frees[-1]])

    def is_whole(self):
        """Whether all free stretches are stuck."""
        return not self.sales()

    def offers(self, size):
        """The tuples (row, seat) of the sales of a size that are offered, ascending."""
        check_size(self._rule, size)
        return [(row, seat) for row, seat, other in self.sales() if other == size]

    def refused(self, size):
        """Whether no sale of a size is offered."""
        return not self.offers(size)

    def copied(self):
        """A hall that goes on by itself, with the sales that were taken back."""
        other = Hall(self._plan, self._rule)
        other._log = list(self._log)
        other._taken = list(self._taken)
        other._frees = list(self._frees)
        return other
