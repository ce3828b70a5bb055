"""Rules: which choices are offered to parties that ask for seats."""

from loneseats.errors import NoEnd, Wrong
from loneseats.kinds import ENDS, are_sizes, is_end, is_number

PLACES = ("any", "side")
GREATEST_OFFER = 5


def _ascending(numbers):
    """The numbers as an ascending tuple, each once."""
    return tuple(sorted(set(numbers)))


def _are_rule_sizes(thing):
    """Whether thing can be the sizes of a rule."""
    return are_sizes(thing) and len(thing) > 0


def _are_bad_lengths(thing):
    """Whether thing can be the bad lengths of a rule."""
    if thing is None:
        return True
    if not isinstance(thing, dict):
        return False
    return all([is_end(end) and are_sizes(lengths) for end, lengths in thing.items()])


def _is_place(thing):
    """Whether thing is a word for where parties may sit."""
    return isinstance(thing, str) and thing in PLACES


def _is_offer(thing):
    """Whether thing can be the offer of a rule."""
    return is_number(thing) and thing <= GREATEST_OFFER


class Rule:
    """Sizes, the bad lengths of each end, soft or strict, where parties sit, and how much is offered."""

    def __init__(self, sizes, bad=None, *, soft=False, where="any", offer=0):
        if not _are_rule_sizes(sizes):
            raise Wrong(0)
        if not _are_bad_lengths(bad):
            raise Wrong(1)
        if not isinstance(soft, bool):
            raise Wrong(2)
        if not _is_place(where):
            raise Wrong(3)
        if not _is_offer(offer):
            raise Wrong(4)
        told = {} if bad is None else bad
        self._sizes = _ascending(sizes)
        self._bad = {end: _ascending(told.get(end, ())) for end in ENDS}
        self._soft = soft
        self._where = where
        self._offer = offer

    @property
    def sizes(self):
        """The sizes, ascending, each once."""
        return self._sizes

    @property
    def soft(self):
        """Whether bad choices are let where there are no others."""
        return self._soft

    @property
    def where(self):
        """Whether parties sit anywhere or at the sides alone."""
        return self._where

    @property
    def offer(self):
        """How many of the choices let are offered; 0 if all are."""
        return self._offer

    def __eq__(self, other):
        return (isinstance(other, Rule) and self._sizes == other._sizes and self._bad == other._bad
                and self._soft == other._soft and self._where == other._where and self._offer == other._offer)

    def bad_at(self, end):
        """The bad lengths of an end, ascending."""
        if not is_end(end):
            raise NoEnd(end)
        return list(self._bad[end])

    def greatest_bad(self):
        """The greatest bad length of any end, 0 if there is none."""
        return max([0] + [length for lengths in self._bad.values() for length in lengths])

    def span(self):
        """The length from which on no stretch refuses a size of the rule."""
        greatest, most = self.greatest_bad(), max(self._sizes)
        if self._offer == 0:
            return greatest + most + 1
        return 2 * greatest + most + self._offer

    def with_bad(self, end, lengths):
        """The rule with these bad lengths of an end."""
        if not is_end(end):
            raise NoEnd(end)
        if not are_sizes(lengths):
            raise Wrong(1)
        bad = {other: self._bad[other] for other in ENDS}
        bad[end] = lengths
        return Rule(self._sizes, bad, soft=self._soft, where=self._where, offer=self._offer)

    def with_sizes(self, sizes):
        """The rule with these sizes."""
        if not _are_rule_sizes(sizes):
            raise Wrong(0)
        return Rule(sizes, self._bad, soft=self._soft, where=self._where, offer=self._offer)

    def with_soft(self, soft):
        """The rule, soft or strict."""
        if not isinstance(soft, bool):
            raise Wrong(0)
        return Rule(self._sizes, self._bad, soft=soft, where=self._where, offer=self._offer)

    def with_where(self, where):
        """The rule with this word for where parties sit."""
        if not _is_place(where):
            raise Wrong(0)
        return Rule(self._sizes, self._bad, soft=self._soft, where=where, offer=self._offer)

    def with_offer(self, offer):
        """The rule that offers so many choices."""
        if not _is_offer(offer):
            raise Wrong(0)
        return Rule(self._sizes, self._bad, soft=self._soft, where=self._where, offer=offer)

    def bare(self):
        """The rule without bad lengths."""
        return Rule(self._sizes, soft=self._soft, where=self._where, offer=self._offer)
