"""A row between two walls in which parties also leave, so that a stretch can come that no split has left.

A state is the ascending tuple of the tuples (seat, size) of the parties that sit there. A step is a tuple
("sell", seat, size) or ("back", seat).
"""

from loneseats.choices import check_size, sales
from loneseats.errors import BadStep
from loneseats.kinds import is_number, is_size

MOST_SEATS = 9


def _free_in(length, state):
    """The tuples (at, seat, stretch) of the free stretches with seats; at is how many parties sit ahead of it."""
    found = []
    first, left = 0, "wall"
    for at, (seat, size) in enumerate(state):
        if seat > first:
            found.append((at, first, (left, seat - first, "sold")))
        first, left = seat + size, "sold"
    if length > first:
        found.append((len(state), first, (left, length - first, "wall")))
    return found


class Row:
    """A row of some length that is sold by a rule. What is offered in a stretch is kept once it was asked."""

    def __init__(self, rule, length):
        self._rule = rule
        self._length = length
        self._sales = {}

    def _sales_in(self, stretch):
        """The choices that are offered in a stretch."""
        if stretch not in self._sales:
            self._sales[stretch] = sales(self._rule, stretch)
        return self._sales[stretch]

    def nexts(self, state, is_back):
        """The dict from the steps that can be made in a state to the states behind them; "back" is one if asked."""
        found = {}
        for at, first, stretch in _free_in(self._length, state):
            for size, before in self._sales_in(stretch):
                seat = first + before
                found[("sell", seat, size)] = state[:at] + ((seat, size),) + state[at:]
        if is_back:
            for at, (seat, _) in enumerate(state):
                found[("back", seat)] = state[:at] + state[at + 1:]
        return found

    def ways(self, is_back):
        """The dict from the states that come, those behind fewer steps first, to how they come.

        It is None for the first one, otherwise the tuple of the state ahead of it and the step.
        """
        found = {(): None}
        waiting = [()]
        at = 0
        while at < len(waiting):
            state = waiting[at]
            for step, after in self.nexts(state, is_back).items():
                if after not in found:
                    found[after] = (state, step)
                    waiting.append(after)
            at += 1
        return found

    def free_if_stuck(self, state):
        """How many seats are free in a state in which all stretches are stuck; -1 in another one."""
        many = 0
        for _, _, stretch in _free_in(self._length, state):
            if self._sales_in(stretch):
                return -1
            many += stretch[1]
        return many

    def is_lone(self, state, size):
        """Whether all stretches refuse a size though one of them has so many seats."""
        free = [stretch for _, _, stretch in _free_in(self._length, state)]
        if not [stretch for stretch in free if stretch[1] >= size]:
            return False
        return not [stretch for stretch in free for other, _ in self._sales_in(stretch) if other == size]


def _script_of(found, state):
    """The script by which a state comes, as ways told it."""
    script = []
    while found[state] is not None:
        state, step = found[state]
        script.append(step)
    return list(reversed(script))


def steps_at(rule, length, state):
    """The steps that can be made in a state, ascending."""
    return sorted(list(Row(rule, length).nexts(state, True)))


def _is_step(thing):
    """Whether thing, any value, is a step by its form."""
    if not isinstance(thing, tuple) or len(thing) < 2 or not isinstance(thing[0], str) or not is_number(thing[1]):
        return False
    if thing[0] == "back":
        return len(thing) == 2
    return thing[0] == "sell" and len(thing) == 3 and is_size(thing[2])


def state_behind(rule, length, script):
    """The state behind a script, any value, or an error with the index of the first step that cannot be made."""
    if not isinstance(script, list):
        raise BadStep(-1)
    row = Row(rule, length)
    state = ()
    for at, member in enumerate(script):
        found = row.nexts(state, True) if _is_step(member) else {}
        if not found or member not in found:
            raise BadStep(at)
        state = found[member]
    return state


def states(rule, length, *, returned=True):
    """The states that come, ascending; without "back" if returned is false."""
    return sorted(list(Row(rule, length).ways(returned)))


def _is_state(thing):
    """Whether thing, any value, is a tuple of tuples of a number and a size."""
    if not isinstance(thing, tuple):
        return False
    return all([isinstance(party, tuple) and len(party) == 2 and is_number(party[0]) and is_size(party[1])
                for party in thing])


def script_to(rule, length, state):
    """A shortest script behind which a state, any value, stands, or None."""
    if not _is_state(state):
        return None
    found = Row(rule, length).ways(True)
    return _script_of(found, state) if state in found else None


def most_free(rule, length, *, returned=True):
    """The greatest number of free seats in a state that comes and in which all stretches are stuck."""
    row = Row(rule, length)
    return max([row.free_if_stuck(state) for state in row.ways(returned)])


def breaks(rule):
    """The lengths from 0 to 9 at which more seats can be free in the end if parties also leave."""
    return [length for length in range(MOST_SEATS + 1)
            if most_free(rule, length) > most_free(rule, length, returned=False)]


def lone_script(rule, length, size, *, returned=True):
    """A shortest script behind which all stretches refuse a size though one has so many seats, or None."""
    check_size(rule, size)
    row = Row(rule, length)
    found = row.ways(returned)
    for state in found:
        if row.is_lone(state, size):
            return _script_of(found, state)
    return None
