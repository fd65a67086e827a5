"""Kinds of values that many functions ask for: numbers, words and points."""

from openloops.errors import InvalidNumber

MOST_UNKNOWNS = 3
LONGEST_WORD = 20000
ALPHABET = "abcdefghijklmnopqrstuvwxyz"


def is_whole(value):
    """Tell whether a value is a whole number; a Boolean is none."""
    return isinstance(value, int) and not isinstance(value, bool)


def is_count(value):
    """Tell whether a value is a whole number of at least 0."""
    return is_whole(value) and value >= 0


def is_count_below(bound, value):
    """Tell whether a value is a count less than a bound."""
    return is_count(value) and value < bound


def require_many(many):
    """Raise an error unless `many` can be a number of unknowns."""
    if not is_count_below(MOST_UNKNOWNS + 1, many):
        raise InvalidNumber(many)


def is_string_of_letters(value):
    """Tell whether a value is a string, of any length, of letters only."""
    if not isinstance(value, str):
        return False
    return value == "" or (value.isascii() and value.isalpha() and value.islower())


def is_word(value):
    """Tell whether a value is a word, perhaps an empty one."""
    return is_string_of_letters(value) and len(value) <= LONGEST_WORD


def is_letter(value):
    """Tell whether a value is a letter."""
    return is_string_of_letters(value) and len(value) == 1


def is_point(many, value):
    """Tell whether a value is a point for as many unknowns."""
    return isinstance(value, list) and len(value) == many and all([is_count(number) for number in value])
