"""What the tests share: any values, rules of all kinds, and the definitions in plain words.

A rule is told here by a dict of the arguments of Rule, so that nothing of the package is used to check it.
"""

import copy
import random

from loneseats.rules import Rule
from loneseats.worths import Worth

ENDS = ("pillar", "sold", "wall")
PAIRS = [(left, right) for left in ENDS for right in ENDS]


def nested(depth, core=0):
    """A list so many lists deep."""
    for _ in range(depth):
        core = [core]
    return core


class Same:
    """Equal to everything."""

    def __eq__(self, other):
        return True

    def __deepcopy__(self, memo):
        return self


def any_values():
    """Values of many kinds, new each time."""
    return [
        None, True, False, 0, 1, 2, 3, 5, 6, 60, 61, -1, -2, 10 ** 40, -10 ** 40, "", "1", "2", "wall", "sold",
        "pillar", "Wall", "walls", "any", "side", " ~\n", "x" * 9000, b"wall", [], (), {}, set(), {1, 2}, [2],
        (2,), (2, 1), [2, 1], (0, 1, 2), [0, 1, 2], (1, 2, 3, 4), ("wall", 3, "sold"), ["wall", 3, "sold"],
        {"wall": [1]}, {1: 2}, {True: 1}, {"soft": True}, [[5]], ((5,),), [None], [[]], ((),), (None, None),
        (None, None, None), nested(29), (nested(28), nested(28), nested(28)), [0] * 9999, (2,) * 9999,
        object, object(), Same(), len, frozenset([1]), range(3),
    ]


def same(one, other):
    """Whether two values are equal and of one kind, through and through."""
    if type(one) is not type(other):
        return False
    if isinstance(one, (list, tuple)):
        return len(one) == len(other) and all(same(x, y) for x, y in zip(one, other))
    if isinstance(one, dict):
        return list(one) == list(other) and all(same(one[key], other[key]) for key in one)
    return one is other or one == other


def copied(thing):
    """A deep copy, but of what cannot be copied itself."""
    return copy.deepcopy(thing)


def told(sizes, bad=None, soft=False, where="any", offer=0):
    """A rule told by a dict."""
    return {"sizes": sizes, "bad": bad or {}, "soft": soft, "where": where, "offer": offer}


def made(words):
    """The Rule that a dict tells."""
    return Rule(words["sizes"], words["bad"], soft=words["soft"], where=words["where"], offer=words["offer"])


def some_rules(seed, many, greatest=5):
    """Different kinds of rules, told by dicts, the same ones for a seed."""
    chance = random.Random(seed)
    found = []
    for at in range(many):
        sizes = chance.sample(range(1, greatest + 1), chance.randint(1, min(3, greatest)))
        bad = {end: chance.sample(range(1, 6), chance.choice([0, 0, 1, 1, 2, 3])) for end in ENDS}
        offer = 0 if at % 2 else chance.randint(1, 5)
        where = ["any", "any", "side"][at // 2 % 3]
        found.append(told(sizes, bad, chance.random() < 0.5, where, offer))
    return found


def some_worth(chance, sizes):
    """The prices, the price of a free seat and the until of a worth for a rule."""
    prices = {size: chance.randint(0, 9) for size in range(1, 6) if chance.random() < 0.7}
    return prices, chance.randint(0, 9), chance.choice([0, 0] + sizes)


def some_cases(seed, many):
    """Rules told by dicts, each with what makes a worth for it."""
    chance = random.Random(seed)
    return [(words, some_worth(chance, words["sizes"])) for words in some_rules(seed, many)]


def worth_of(parts):
    """The Worth of prices, a free price and an until."""
    prices, free, until = parts
    return Worth(prices, free, until=until)


def words_possible(words, stretch, size):
    left, length, right = stretch
    found = []
    for before in range(length + 1):
        after = length - size - before
        if after >= 0 and (words["where"] == "any" or before == 0 or after == 0):
            found.append(before)
    return found


def words_is_bad(words, stretch, size, before):
    left, length, right = stretch
    after = length - size - before
    return before in words["bad"].get(left, []) or after in words["bad"].get(right, [])


def words_let(words, stretch, size):
    found = words_possible(words, stretch, size)
    good = [before for before in found if not words_is_bad(words, stretch, size, before)]
    if not good and words["soft"]:
        return found
    return good


def words_offered(words, stretch, size):
    found = words_let(words, stretch, size)
    return found[:words["offer"]] if words["offer"] else found


def words_sales(words, stretch):
    return sorted((size, before) for size in set(words["sizes"]) for before in words_offered(words, stretch, size))


def words_refuses(words, stretch, size):
    return size not in words["sizes"] or not words_offered(words, stretch, size)


def words_is_stuck(words, stretch):
    return all(words_refuses(words, stretch, size) for size in words["sizes"])


def words_span(words):
    worst = max([0] + [length for lengths in words["bad"].values() for length in lengths])
    if words["offer"] == 0:
        return worst + max(words["sizes"]) + 1
    return 2 * worst + max(words["sizes"]) + words["offer"]


def words_may_end(words, until, stretch):
    return words_refuses(words, stretch, until) if until else words_is_stuck(words, stretch)


def words_total(words, prices, free, until, is_least):
    """The function from stretches to their greatest (least) totals, by the definition."""
    known = {}

    def total(stretch):
        if stretch not in known:
            left, length, right = stretch
            found = [free * length] if words_may_end(words, until, stretch) else []
            for size, before in words_sales(words, stretch):
                after = length - size - before
                found.append(prices.get(size, 0) + total((left, before, "sold")) + total(("sold", after, right)))
            known[stretch] = min(found) if is_least else max(found)
        return known[stretch]

    return total


def words_totals(words, prices, free, until):
    """The function from stretches to the sets of all their totals."""
    known = {}

    def totals(stretch):
        if stretch not in known:
            left, length, right = stretch
            found = {free * length} if words_may_end(words, until, stretch) else set()
            for size, before in words_sales(words, stretch):
                ones, others = totals((left, before, "sold")), totals(("sold", length - size - before, right))
                found |= {prices.get(size, 0) + one + other for one in ones for other in others}
            known[stretch] = found
        return known[stretch]

    return totals


def words_free(stretch, sold):
    """The tuples (seat, stretch) of the free stretches of at least one seat behind sales (seat, size), seat by seat."""
    left, length, right = stretch
    taken = [seat for first, size in sold for seat in range(first, first + size)]
    found = []
    seat = 0
    while seat < length:
        if seat in taken:
            seat += 1
            continue
        end = seat
        while end < length and end not in taken:
            end += 1
        found.append((seat, (left if seat == 0 else "sold", end - seat, right if end == length else "sold")))
        seat = end
    return found


def words_sales_then(words, stretch, sold):
    """All sales (seat, size) that are offered behind others in a stretch."""
    return sorted((first + before, size) for first, part in words_free(stretch, sold)
                  for size, before in words_sales(words, part))


def reached(play, sales_then):
    """All sets of sales that plays which begin with this one come to, each as an ascending tuple."""
    first = tuple(sorted(play))
    found = {first}
    waiting = [first]
    while waiting:
        state = waiting.pop()
        for sale in sales_then(state):
            later = tuple(sorted(state + (sale,)))
            if later not in found:
                found.add(later)
                waiting.append(later)
    return sorted(found)


def words_states(words, stretch, play=()):
    """All sets of sales that plays of a stretch come to, behind some sales."""
    return reached(play, lambda state: words_sales_then(words, stretch, state))


def words_plan_states(words, rows, play=()):
    """All sets of sales that plays of a plan come to, behind some sales."""
    return reached(play, lambda state: words_sales_behind(words, rows, state))


def words_is_end(words, until, stretch, state):
    """Whether a play of a stretch may end in a state."""
    return all(words_may_end(words, until, part) for seat, part in words_free(stretch, state))


def words_count(prices, free, stretch, state):
    """The total of a state of a stretch."""
    seats = sum(part[1] for seat, part in words_free(stretch, state))
    return sum(prices.get(size, 0) for seat, size in state) + free * seats


def words_stretches(rows):
    """The tuples (row, seat, stretch) of an empty plan."""
    found = []
    for at, row in enumerate(rows):
        for part, length in enumerate(row):
            left = "pillar" if part else "wall"
            right = "pillar" if part + 1 < len(row) else "wall"
            found.append((at, sum(row[:part]), (left, length, right)))
    return found


def words_behind(rows, play):
    """The tuples (row, seat, stretch) of the free stretches of a plan behind a play."""
    found = []
    for row, first, stretch in words_stretches(rows):
        sold = [(seat - first, size) for at, seat, size in play
                if at == row and first <= seat < first + stretch[1]]
        found.extend((row, first + seat, part) for seat, part in words_free(stretch, sold))
    return sorted(found)


def words_sales_behind(words, rows, play):
    """All sales (row, seat, size) that are offered behind a play of a plan."""
    return sorted((row, seat + before, size) for row, seat, stretch in words_behind(rows, play)
                  for size, before in words_sales(words, stretch))


def words_items(words, prices, free, until, is_least):
    """All items (weight, gain), by the definition."""
    total, bad = words_total(words, prices, free, until, is_least), words["bad"].get("sold", [])
    if words["where"] == "side":
        beside = [0]
    elif words["offer"] == 0:
        beside = [many for many in range(words_span(words)) if many not in bad]
    else:
        beside = []
        many = 0
        while len(beside) < words["offer"]:
            if many not in bad:
                beside.append(many)
            many += 1
    return sorted({(size + many, prices.get(size, 0) + total(("sold", many, "sold")))
                   for size in words["sizes"] for many in beside})


def words_parts(words, stretch):
    """The parts with seats of all choices that are offered in a stretch, ascending."""
    left, length, right = stretch
    found = set()
    for size, before in words_sales(words, stretch):
        found |= {(left, before, "sold"), ("sold", length - size - before, right)}
    return sorted(part for part in found if part[1] > 0)


def words_comes(words, stretch):
    """The dict from all stretches that come of one to the fewest sales they need."""
    found = {stretch: 0} if stretch[1] else {}
    waiting = list(found)
    for whole in waiting:
        for part in words_parts(words, whole):
            if part not in found:
                found[part] = found[whole] + 1
                waiting.append(part)
    return found


def words_truths(words, left, right, is_wanted, upto):
    """For which lengths a stretch that is wanted comes of one with these ends, by the definition."""
    known = {}
    for length in range(upto + 1):
        for one, other in [("sold", "sold"), (left, "sold"), ("sold", right), (left, right)]:
            stretch = (one, length, other)
            known[stretch] = length > 0 and (is_wanted(stretch) or any(known[part] for part in words_parts(words, stretch)))
    return [known[(left, length, right)] for length in range(upto + 1)]


def words_round(truths):
    """The least period, then the least start, of a long list, of which the last sixty come round: a tuple with truths."""
    last = len(truths) - 60
    period = [some for some in range(1, 30)
              if all(truths[at] == truths[at + some] for at in range(last, len(truths) - some))][0]
    start = last
    while start > 0 and truths[start - 1] == truths[start - 1 + period]:
        start -= 1
    return start, period, tuple(truths[:start + period])
