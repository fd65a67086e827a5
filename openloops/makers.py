"""Makers: they read words letter by letter and write other words."""

from openloops.automata import MOST_STATES, Automaton, columns_of, is_alphabet
from openloops.basics import LONGEST_WORD, is_count_below, is_string_of_letters, is_word
from openloops.errors import InvalidList, InvalidMaker, InvalidNumber, InvalidWord, TooLong
from openloops.pieces import LONGEST_PIECE


class Maker:
    """Reads a word letter by letter, goes from state to state, and writes another word."""

    def __init__(self, letters, rows, *, start=0, closing):
        if not is_alphabet(letters):
            raise InvalidWord(letters)
        if not is_list_of_entries(rows, len(letters) + 1):
            raise InvalidList(rows)
        if not is_count_below(len(rows), start):
            raise InvalidNumber(start)
        if not is_list_of_words(closing, len(rows)):
            raise InvalidList(closing)
        self._letters = letters
        self._rows = [list(row) for row in rows]
        self._start = start
        self._closing = list(closing)

    def letters(self):
        """Return the letters that are told apart."""
        return self._letters

    def rows(self):
        """Return a row for each state: what each letter does, and at the end all other letters."""
        return [list(row) for row in self._rows]

    def start(self):
        """Return the state in which reading begins."""
        return self._start

    def closing(self):
        """Return the word that is written at the end, for each state."""
        return list(self._closing)

    def __eq__(self, other):
        if not isinstance(other, Maker):
            return False
        if self._letters != other._letters or self._start != other._start:
            return False
        return self._rows == other._rows and self._closing == other._closing


def maker_states(maker):
    """Return the automaton that goes from state to state as a maker does and accepts nothing."""
    require_maker(maker)
    rows = [[state for state, _, _ in row] for row in maker.rows()]
    return Automaton(maker.letters(), rows, start=maker.start(), ends=[])


def made_word(maker, word):
    """Return what a maker writes of a word."""
    require_maker(maker)
    if not is_word(word):
        raise InvalidWord(word)
    state, parts = parts_made(maker, maker.start(), word)
    parts.append(maker.closing()[state])
    if letters_of_parts(parts) > LONGEST_WORD:
        raise TooLong(letters_of_parts(parts))
    return "".join(parts)


def require_maker(maker):
    """Raise an error unless an argument is a maker."""
    if not isinstance(maker, Maker):
        raise InvalidMaker(maker)


def is_list_of_entries(value, width):
    """Tell whether a value is a list of rows, one for each state, of so many entries."""
    if not isinstance(value, list) or not 1 <= len(value) <= MOST_STATES:
        return False
    if not all([isinstance(row, list) and len(row) == width for row in value]):
        return False
    return all([is_entry(len(value), item) for row in value for item in row])


def is_entry(how_many, item):
    """Tell whether an item is a tuple of a state, a word and a Boolean."""
    if not isinstance(item, tuple) or len(item) != 3:
        return False
    state, word, itself = item
    return is_count_below(how_many, state) and is_short_word(word) and isinstance(itself, bool)


def is_short_word(value):
    """Tell whether a value is a word that may stand in a maker."""
    return is_string_of_letters(value) and len(value) <= LONGEST_PIECE


def is_list_of_words(value, how_many):
    """Tell whether a value is a list of so many words that may stand in a maker."""
    return isinstance(value, list) and len(value) == how_many and all([is_short_word(item) for item in value])


def parts_made(maker, state, word):
    """Return the state to which a word of any length leads, and the parts that are written of it.

    The parts are not joined: together they may be far longer than any word that is wanted.
    """
    rows, parts = maker.rows(), []
    for letter, column in zip(word, columns_of(maker, word)):
        state, made, itself = rows[state][column]
        parts.append(made)
        if itself:
            parts.append(letter)
    return state, parts


def letters_of_parts(parts):
    """Return how many letters words have together."""
    return sum([len(part) for part in parts])
