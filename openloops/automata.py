"""Automata: they read words letter by letter and accept some of them."""

from openloops.basics import is_count_below, is_word
from openloops.errors import InvalidAutomaton, InvalidList, InvalidNumber, InvalidWord

MOST_STATES = 12


class Automaton:
    """Reads a word letter by letter, goes from state to state, and accepts it or not."""

    def __init__(self, letters, rows, *, start=0, ends):
        if not is_alphabet(letters):
            raise InvalidWord(letters)
        if not is_list_of_rows(rows, len(letters) + 1):
            raise InvalidList(rows)
        if not is_count_below(len(rows), start):
            raise InvalidNumber(start)
        if not is_rising(len(rows), ends):
            raise InvalidList(ends)
        self._letters = letters
        self._rows = [list(row) for row in rows]
        self._start = start
        self._ends = list(ends)

    def letters(self):
        """Return the letters that are told apart."""
        return self._letters

    def rows(self):
        """Return a row for each state: where each letter leads, and at the end all other letters."""
        return [list(row) for row in self._rows]

    def start(self):
        """Return the state in which reading begins."""
        return self._start

    def ends(self):
        """Return the states in which a word is accepted."""
        return list(self._ends)

    def __eq__(self, other):
        if not isinstance(other, Automaton):
            return False
        if self._letters != other._letters or self._start != other._start:
            return False
        return self._rows == other._rows and self._ends == other._ends


def moved(automaton, word):
    """Return, for each state, the state in which a word ends that begins in it."""
    require_reading(automaton, word)
    rows = automaton.rows()
    columns = columns_of(automaton, word)
    states = list(range(len(rows)))
    for column in columns:
        states = [rows[state][column] for state in states]
    return states


def rounds(automaton, word):
    """Return from how many times on, and after how many more, a word leads each state the same way."""
    return turns_by(automaton, word)[0]


def state_behind(automaton, word):
    """Return the state in which a word ends that begins in the start."""
    require_reading(automaton, word)
    rows, state = automaton.rows(), automaton.start()
    for column in columns_of(automaton, word):
        state = rows[state][column]
    return state


def accepts(automaton, word):
    """Tell whether an automaton accepts a word."""
    return state_behind(automaton, word) in automaton.ends()


def turns_by(automaton, word):
    """Return the rounds of a word and, for each number of times below their end, where it leads each state."""
    return turns_of_step(moved(automaton, word))


def turns_of_step(step):
    """Return what `turns_by` does, for the list of the states to which a word leads each state."""
    states, seen = list(range(len(step))), []
    while states not in seen:
        seen.append(states)
        states = [step[state] for state in states]
    threshold = seen.index(states)
    return (threshold, len(seen) - threshold), seen


def is_alphabet(value):
    """Tell whether a value is a word of unlike letters in order."""
    return is_word(value) and "".join(sorted(set(value))) == value


def is_list_of_rows(value, width):
    """Tell whether a value is a list of rows, one for each state, of so many states."""
    if not isinstance(value, list) or not 1 <= len(value) <= MOST_STATES:
        return False
    return all([is_row(item, width, len(value)) for item in value])


def is_row(value, width, how_many):
    """Tell whether a value is a list of so many states, of which there are `how_many`."""
    if not isinstance(value, list) or len(value) != width:
        return False
    return all([is_count_below(how_many, state) for state in value])


def is_rising(how_many, value):
    """Tell whether a value is a list of unlike states, of which there are `how_many`, in order."""
    if not isinstance(value, list) or not is_row(value, len(value), how_many):
        return False
    return value == sorted(set(value))


def require_automaton(automaton):
    """Raise an error unless an argument is an automaton."""
    if not isinstance(automaton, Automaton):
        raise InvalidAutomaton(automaton)


def require_reading(automaton, word):
    """Raise an error unless the arguments are an automaton and a word."""
    require_automaton(automaton)
    if not is_word(word):
        raise InvalidWord(word)


def columns_of(machine, word):
    """Return, for each letter of a word, its place in the rows of an automaton or a maker."""
    letters = machine.letters()
    places = {letter: at for at, letter in enumerate(letters)}
    return [places.get(letter, len(letters)) for letter in word]
