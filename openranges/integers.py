"""Integers and places: what counts as one, and how one is written."""

LAST_PLACE = 10 ** 30

_BLOCK_DIGITS = 60
_BLOCK = 10 ** 60


def is_integer(value):
    """Whether any value is an int that is not a bool."""
    return isinstance(value, int) and not isinstance(value, bool)


def is_place(value):
    """Whether any value is an integer from 0 to 10 ** 30."""
    return is_integer(value) and 0 <= value <= LAST_PLACE


def decimal(number):
    """The decimal digits of an integer, with a minus in front of a negative one."""
    # Python refuses to write more than 4300 digits at once, and products of lines may have more.
    rest = abs(number)
    blocks = []
    while rest >= _BLOCK:
        rest, block = divmod(rest, _BLOCK)
        blocks.append(str(block).zfill(_BLOCK_DIGITS))
    blocks.append(str(rest))
    digits = "".join(blocks[::-1])
    return digits if number >= 0 else "-" + digits
