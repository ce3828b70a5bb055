"""What a value is, by its form alone. Each function takes any value."""

ENDS = ("pillar", "sold", "wall")
GREATEST_SIZE = 5


def is_integer(thing):
    """Whether thing is an integer; True and False are none."""
    return isinstance(thing, int) and not isinstance(thing, bool)


def is_number(thing):
    """Whether thing is an integer from 0 on."""
    return is_integer(thing) and thing >= 0


def is_end(thing):
    """Whether thing is an end of a stretch."""
    return isinstance(thing, str) and thing in ENDS


def is_size(thing):
    """Whether thing is the size of a party."""
    return is_integer(thing) and 1 <= thing <= GREATEST_SIZE


def are_sizes(thing):
    """Whether thing is a list or a tuple of integers from 1 to 5, perhaps empty."""
    return isinstance(thing, (list, tuple)) and all([is_size(member) for member in thing])


def is_stretch(thing):
    """Whether thing is a tuple of an end, a number and an end."""
    if not isinstance(thing, tuple) or len(thing) != 3:
        return False
    left, length, right = thing
    return is_end(left) and is_number(length) and is_end(right)


def is_choice(thing):
    """Whether thing is a tuple of a size and a number."""
    if not isinstance(thing, tuple) or len(thing) != 2:
        return False
    size, before = thing
    return is_size(size) and is_number(before)


def is_sale(thing):
    """Whether thing is a tuple of two numbers and a size."""
    if not isinstance(thing, tuple) or len(thing) != 3:
        return False
    row, seat, size = thing
    return is_number(row) and is_number(seat) and is_size(size)
