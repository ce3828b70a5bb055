"""Guides: choices that come to just what forms tell, for so many lengths that all others follow."""

from loneseats.choices import is_sold
from loneseats.papers import all_pairs, are_forms, has_all_pairs, paper_round, prices_told
from loneseats.worths import check_until, may_end


def _many(rule, start, period):
    """How many members each list of a guide has."""
    return 2 * start + period + max(rule.sizes)


def guide(rule, worth, *, is_least=False):
    """A guide for what paper tells."""
    tables, start, period = paper_round(rule, worth, is_least)
    lengths = range(_many(rule, start, period))
    return {(left, right): [tables.choice((left, length, right)) for length in lengths]
            for left, right in all_pairs()}


def _guides(rule, worth, lists, stretch, member):
    """Whether a member of a guide, any value, comes to just the price of its stretch in the lists."""
    left, length, right = stretch
    price = lists[(left, right)][length]
    if member is None:
        return may_end(rule, worth, stretch) and worth.free * length == price
    if not is_sold(rule, stretch, member):
        return False
    size, before = member
    return worth.price(size) + lists[(left, "sold")][before] + lists[("sold", right)][length - size - before] == price


def is_guide(rule, worth, told, thing):
    """Whether thing, any value, is a guide for forms, told, any value."""
    check_until(rule, worth)
    if not are_forms(rule, told) or not has_all_pairs(thing):
        return False
    start, period, _, _ = told[("sold", "sold")]
    many = _many(rule, start, period)
    if not all([isinstance(members, list) and len(members) == many for members in thing.values()]):
        return False
    lists = prices_told(told, many)
    for left, right in all_pairs():
        for length, member in enumerate(thing[(left, right)]):
            if not _guides(rule, worth, lists, (left, length, right), member):
                return False
    return True
