"""Plans: rows of seats, parted by pillars."""

from loneseats.errors import Wrong
from loneseats.kinds import is_integer

MOST_ROWS = 5
MOST_PARTS = 5
MOST_SEATS = 60


def _is_row(thing):
    """Whether thing can be the lengths of a row."""
    if not isinstance(thing, (list, tuple)) or not 1 <= len(thing) <= MOST_PARTS:
        return False
    return all([is_integer(length) and 1 <= length <= MOST_SEATS for length in thing])


def _are_rows(thing):
    """Whether thing can be the rows of a plan."""
    if not isinstance(thing, (list, tuple)) or not 1 <= len(thing) <= MOST_ROWS:
        return False
    if not all([_is_row(row) for row in thing]):
        return False
    return sum([length for row in thing for length in row]) <= MOST_SEATS


def _row_stretches(row):
    """The tuples (seat, stretch) of an empty row, ascending."""
    found = []
    seat = 0
    for at, length in enumerate(row):
        left = "wall" if at == 0 else "pillar"
        right = "wall" if at == len(row) - 1 else "pillar"
        found.append((seat, (left, length, right)))
        seat += length
    return found


class Plan:
    """Rows of seats, each told by the lengths of its parts between pillars."""

    def __init__(self, rows):
        if not _are_rows(rows):
            raise Wrong(0)
        self._rows = tuple([tuple(row) for row in rows])
        self._seats = tuple([(at, seat) for at, row in enumerate(self._rows) for seat in range(sum(row))])

    def __eq__(self, other):
        return isinstance(other, Plan) and self._rows == other._rows

    def __len__(self):
        return len(self._seats)

    def __iter__(self):
        return iter(self._rows)

    def rows(self):
        """The rows, as tuples."""
        return list(self._rows)

    def stretches(self):
        """The tuples (row, seat, stretch) of the empty plan, ascending."""
        return [(at, seat, stretch) for at, row in enumerate(self._rows) for seat, stretch in _row_stretches(row)]
