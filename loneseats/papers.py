"""Papers: prices of all stretches that no play outbids, told by lists of short ones or by forms for all lengths."""

from loneseats.forms import grown_round, least_period, value
from loneseats.kinds import ENDS, is_integer
from loneseats.splits import GREATEST_BAD, Splits
from loneseats.totals import Bids, Tables, most_of_rest
from loneseats.worths import check_until

MOST_LISTED = 61
GREATEST_START = 400
GREATEST_PERIOD = 60


def all_pairs():
    """The nine pairs of ends, ascending."""
    return [(left, right) for left in ENDS for right in ENDS]


def has_all_pairs(thing):
    """Whether thing, any value, is a dict from just the nine pairs."""
    return isinstance(thing, dict) and len(thing) == 9 and all([pair in thing for pair in all_pairs()])


def _are_integers(thing):
    """Whether all members of a list or a tuple are integers."""
    return all([is_integer(member) for member in thing])


def _are_lists(thing):
    """Whether thing, any value, has the form of price lists."""
    if not has_all_pairs(thing) or not all([isinstance(prices, list) for prices in thing.values()]):
        return False
    many = len(thing[("sold", "sold")])
    if not 1 <= many <= MOST_LISTED:
        return False
    return all([len(prices) == many and _are_integers(prices) for prices in thing.values()])


def _is_form(thing, least):
    """Whether thing, any value, has the form of forms, its start being least or more."""
    if not isinstance(thing, tuple) or len(thing) != 4:
        return False
    start, period, rise, values = thing
    if not _are_integers([start, period, rise]) or not isinstance(values, tuple):
        return False
    if not least <= start <= GREATEST_START or not 1 <= period <= GREATEST_PERIOD:
        return False
    return len(values) == start + period and _are_integers(values)


def are_forms(rule, thing):
    """Whether thing, any value, are forms of all pairs."""
    if not has_all_pairs(thing) or not all([_is_form(told, rule.span()) for told in thing.values()]):
        return False
    start, period, rise, _ = thing[("sold", "sold")]
    return all([told[:3] == (start, period, rise) for told in thing.values()])


def prices_told(forms, many):
    """What forms tell of the lengths below many: a dict from the pairs to lists."""
    return {pair: [value(told, length) for length in range(many)] for pair, told in forms.items()}


def _most_of_all(splits, befores, afters, rest):
    """What both parts of a rest come to at most with any choice that is offered, None without any."""
    width = GREATEST_BAD + 1
    outer = most_of_rest(befores, afters, splits.outer(rest, width), rest)
    if not splits.is_wide(rest, width):
        return outer
    inner = [one + other for one, other in zip(befores[width:rest - width + 1], afters[rest - width:width - 1:-1])]
    return max(outer, max(inner))


def _keeps(rule, bids, lists, left, right):
    """Whether no choice outbids the prices of two ends, and no end of a play; all are kept as Bids has them."""
    splits = Splits(rule, left, right)
    befores, afters = lists[(left, "sold")], lists[("sold", right)]
    rests = []
    for length, price in enumerate(lists[(left, right)]):
        if length > 0:
            rests.append(_most_of_all(splits, befores, afters, length - 1))
        if bids.most(rests, length) > price:
            return False
    return True


def _all_keep(rule, worth, lists, is_least):
    """Whether lists of prices are such that no play outbids them."""
    bids = Bids(rule, worth, is_least)
    kept = {pair: [bids.sign * price for price in prices] for pair, prices in lists.items()}
    for left, right in all_pairs():
        if not _keeps(rule, bids, kept, left, right):
            return False
    return True


def price_lists(rule, worth, upto, *, is_least=False):
    """The price lists of the lengths up to upto that are the totals themselves."""
    check_until(rule, worth)
    tables = Tables(rule, worth, is_least)
    for left, right in all_pairs():
        tables.grow(left, right, upto)
    return {(left, right): tables.told(left, right, upto) for left, right in all_pairs()}


def are_price_lists(rule, worth, thing, *, is_least=False):
    """Whether thing, any value, are price lists."""
    check_until(rule, worth)
    return _are_lists(thing) and _all_keep(rule, worth, thing, is_least)


def paper_round(rule, worth, is_least):
    """The Tables of all pairs, and the start and the period of what paper tells."""
    tables, start, weight = grown_round(rule, worth, all_pairs(), is_least)
    lists = [tables.told(left, right, start + 2 * weight) for left, right in all_pairs()]
    return tables, start, least_period(lists, start, weight)


def paper(rule, worth, *, is_least=False):
    """A paper that tells the totals themselves: forms of all pairs, with a common start and period."""
    tables, start, period = paper_round(rule, worth, is_least)
    lists = {(left, right): tables.told(left, right, start + period) for left, right in all_pairs()}
    return {pair: (start, period, totals[start + period] - totals[start], tuple(totals[:start + period]))
            for pair, totals in lists.items()}


def is_paper(rule, worth, thing, *, is_least=False):
    """Whether thing, any value, is a paper."""
    check_until(rule, worth)
    if not are_forms(rule, thing):
        return False
    start, period, _, _ = thing[("sold", "sold")]
    # A longer stretch has a choice just where the one shorter by period has one, with one part shorter by period.
    return _all_keep(rule, worth, prices_told(thing, 2 * start + 2 * period + max(rule.sizes)), is_least)
