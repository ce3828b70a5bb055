"""Rules of some shape, and rules by what they come to in the long run."""

from math import lcm

from loneseats.items import rate
from loneseats.rules import Rule


def _choices_of(greatest):
    """All ascending lists of different numbers from 1 to greatest, the empty one first."""
    found = [[]]
    for number in range(1, greatest + 1):
        found = found + [some + [number] for some in found]
    return found


def shape(sizes, greatest, *, where="any", offer=0):
    """The rules with bad lengths up to greatest beside "sold", which the other ends have as well or have not."""
    found = []
    for bad in _choices_of(greatest):
        for beside in ([[], bad] if bad else [[]]):
            told = {"sold": bad, "pillar": beside, "wall": beside}
            for soft in (False, True):
                found.append(Rule(sizes, told, soft=soft, where=where, offer=offer))
    return found


def ranked(rules, worth, *, is_least=False):
    """The tuples (rate, indexes of the rules that have it), the lesser rates first."""
    found = {}
    for at, rule in enumerate(rules):
        found.setdefault(rate(rule, worth, is_least=is_least), []).append(at)
    # Rates are fractions: by a common weight they are ordered as integers are.
    common = 1
    for _, weight in found:
        common = lcm(common, weight)
    ordered = sorted([(gain * (common // weight), (gain, weight)) for gain, weight in found])
    return [(told, found[told]) for _, told in ordered]
