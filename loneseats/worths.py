"""Worths: what sales and free seats count, and where a play may end."""

from loneseats.choices import has_size, is_stuck, refuses
from loneseats.errors import NoSize, Wrong
from loneseats.kinds import is_number, is_size

GREATEST_PRICE = 9


def _is_price(thing):
    """Whether thing can be a price."""
    return is_number(thing) and thing <= GREATEST_PRICE


def _are_prices(thing):
    """Whether thing can be the prices of a worth."""
    if thing is None:
        return True
    if not isinstance(thing, dict):
        return False
    return all([is_size(size) and _is_price(price) for size, price in thing.items()])


def _is_until(thing):
    """Whether thing is 0 or a size."""
    return is_size(thing) or (is_number(thing) and thing == 0)


class Worth:
    """A price for each size, a price of a free seat, and the size that is refused where a play may end."""

    def __init__(self, prices=None, free=0, *, until=0):
        if not _are_prices(prices):
            raise Wrong(0)
        if not _is_price(free):
            raise Wrong(1)
        if not _is_until(until):
            raise Wrong(2)
        told = {} if prices is None else prices
        self._prices = {size: told[size] for size in sorted(told) if told[size] > 0}
        self._free = free
        self._until = until

    @property
    def free(self):
        """The price of a free seat."""
        return self._free

    @property
    def until(self):
        """The size that is refused where a play may end; 0 if all stretches are stuck there."""
        return self._until

    def __eq__(self, other):
        return (isinstance(other, Worth) and self._prices == other._prices
                and self._free == other._free and self._until == other._until)

    def prices(self):
        """The dict from the sizes with a price above 0 to their prices, ascending."""
        return {size: price for size, price in self._prices.items()}

    def price(self, size):
        """The price of a size."""
        return self._prices.get(size, 0)

    def total(self, sold, seats):
        """What sales, told by a dict from sizes to their numbers, and free seats come to."""
        return sum([self.price(size) * many for size, many in sold.items()]) + self._free * seats


def check_until(rule, worth):
    """Raises an error if until is neither 0 nor a size of the rule."""
    if worth.until != 0 and not has_size(rule, worth.until):
        raise NoSize(worth.until)


def may_end(rule, worth, stretch):
    """Whether a play of a stretch alone may end as it is."""
    if worth.until == 0:
        return is_stuck(rule, stretch)
    return not has_size(rule, worth.until) or refuses(rule, stretch, worth.until)
