"""Integers and places: what counts as one, and how one is written."""

LAST_PLACE = 10 ** 30

_BLOCK_DIGITS = 60
_BLOCK = 10 ** 60


def is_integer(value):
    """Whether any value is an int that is not a bool."""
    return isinstance(value, int) and not isinstance(value, bool)


def is_place(value):
    """Whether any value is an integer from 0 to 10 ** 30."""
    return is_integer(value) and 0 <= value <= LAST_PLACE


def decimal(number):
    """The decimal digits of an integer, with a minus in front of a negative one."""
    # Python refuses to write more than 4300 digits at once, and products of lines may have more.
    rest = abs(number)
    blocks = []
    while rest >= _BLOCK:
        rest, block = divmod(rest, _BLOCK)
        blocks.append(str(block).zfill(_BLOCK_DIGITS))
    blocks.append(str(rest))
    digits = "".join(blocks[::-1])
    return digits if number >= 0 else "-" + digits


def read_decimal(text):
    """The integer that is written as this string, as decimal writes it; None if there is none."""
    digits = text[1:] if text.startswith("-") else text
    # Python has other digits than 0 to 9.
    if not (digits.isascii() and digits.isdigit()) or (digits[0] == "0" and text != "0"):
        return None
    # Python refuses to read more than 4300 digits at once.
    padded = "0" * (-len(digits) % _BLOCK_DIGITS) + digits
    number = 0
    for begin in range(0, len(padded), _BLOCK_DIGITS):
        number = number * _BLOCK + int(padded[begin:begin + _BLOCK_DIGITS])
    return number if digits == text else -number


def read_place(text):
    """The place that is written as this string, or None."""
    number = read_decimal(text)
    return number if is_place(number) else None
