"""Items: what a party and the seats at its side weigh and gain, and which ones gain most for their weight."""

from math import gcd

from loneseats.kinds import is_integer
from loneseats.splits import GREATEST_BAD
from loneseats.totals import table


def beside(rule):
    """The ascending list of how many seats stand at the side of the party of an item."""
    bad = rule.bad_at("sold")
    if rule.where == "side":
        return [0]
    if rule.offer == 0:
        return [many for many in range(rule.span()) if many not in bad]
    # No more than so many lengths are bad.
    return [many for many in range(rule.offer + GREATEST_BAD) if many not in bad][:rule.offer]


def items(rule, worth, *, is_least=False):
    """The different items of a rule and a worth, as tuples (weight, gain), ascending."""
    found = beside(rule)
    totals = table(rule, worth, "sold", "sold", found[-1], is_least=is_least)
    return sorted(set([(size + many, worth.price(size) + totals[many]) for size in rule.sizes for many in found]))


def best_item(rule, worth, *, is_least=False):
    """The least of the items that have the most gain for their weight (with is_least, the least gain)."""
    sign = -1 if is_least else 1
    best_weight, best_gain = 0, 0
    for weight, gain in items(rule, worth, is_least=is_least):
        if best_weight == 0 or sign * gain * best_weight > sign * best_gain * weight:
            best_weight, best_gain = weight, gain
    return best_weight, best_gain


def rate(rule, worth, *, is_least=False):
    """What the best item gains for its weight, as a tuple (gain, weight) in lowest terms."""
    weight, gain = best_item(rule, worth, is_least=is_least)
    common = gcd(gain, weight)
    return gain // common, weight // common


def is_rate(rule, worth, thing, *, is_least=False):
    """Whether thing, any value, is a tuple of what a best item gains and weighs, in lowest terms or not."""
    weight, gain = best_item(rule, worth, is_least=is_least)
    if not isinstance(thing, tuple) or len(thing) != 2:
        return False
    first, second = thing
    return is_integer(first) and is_integer(second) and second >= 1 and first * weight == second * gain
