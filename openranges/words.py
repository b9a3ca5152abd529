"""What the arguments of clauses, programs and specifications must be: words, names, signs, factors."""

from openranges.errors import BadFactor, BadName, BadSign, BadWord, SameFunction
from openranges.integers import is_integer

_LETTERS = "abcdefghijklmnopqrstuvwxyz"
_DIGITS = "0123456789"
_MOST_LETTERS = 8


def is_word(value):
    """Whether any value is a string of 1 to 8 small letters from a to z."""
    if not isinstance(value, str) or not 1 <= len(value) <= _MOST_LETTERS:
        return False
    return all([letter in _LETTERS for letter in value])


def check_word(value):
    """Raises BadWord unless any value is a word."""
    if not is_word(value):
        raise BadWord(value)


def check_two_words(function, other):
    """Raises BadWord unless two values are words, and SameFunction if they are the same one."""
    check_word(function)
    check_word(other)
    if function == other:
        raise SameFunction(function)


def is_name(value):
    """Whether any value is a string of 1 to 8 small letters and digits that begins with a letter."""
    if not isinstance(value, str) or not 1 <= len(value) <= _MOST_LETTERS:
        return False
    return value[0] in _LETTERS and all([sign in _LETTERS or sign in _DIGITS for sign in value])


def check_name(value):
    """Raises BadName unless any value is a name."""
    if not is_name(value):
        raise BadName(value)


def check_sign(value, allowed):
    """Raises BadSign unless any value is one of the strings that are allowed."""
    if value not in allowed:
        raise BadSign(value)


def check_factor(value):
    """Raises BadFactor unless any value is an integer from 1 on."""
    if not is_integer(value) or value < 1:
        raise BadFactor(value)
