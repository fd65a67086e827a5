"""Workshops: programs with the deeds that are done, undone and done again, and with marked statements.

The *state* of a workshop is a tuple (steps, now, marks) that never changes but is replaced. `steps` is a tuple
of tuples (deed, move, program): first the deeds that stand, of which there are `now`, then those that are
undone, the last one undone first. `marks` is a dict with (number of deeds, place) for each word: where the
statement was when so many deeds stood, with None for the place if it will never be there again.
"""

from openloops.basics import is_string_of_letters
from openloops.deedparts import program_behind
from openloops.errors import (InvalidDeed, InvalidFlag, InvalidList, InvalidWord, InvalidWorkshop, NothingToRedo,
                              NothingToUndo)
from openloops.moves import move_of, place_behind, place_led_back
from openloops.places import require_place
from openloops.programs import require_program, table_of_parts
from openloops.rows import fresh_row

LONGEST_MARK = 12


class Workshop:
    """Holds a program and what is done with it."""

    def __init__(self, program):
        require_program(program)
        self._first = program
        self._state = ((), 0, {})

    def do(self, deed):
        """Do a deed of the program that stands now."""
        self._state = state_behind(self._first, self._state, deed)

    def undo(self):
        """Undo the last deed that stands."""
        steps, now, marks = self._state
        if now == 0:
            raise NothingToUndo()
        self._state = (steps, now - 1, marks)

    def redo(self):
        """Do again the deed that was undone last."""
        steps, now, marks = self._state
        if now == len(steps):
            raise NothingToRedo()
        self._state = (steps, now + 1, marks)

    @property
    def program(self):
        """The program that stands now."""
        return program_of_state(self._first, self._state)

    @property
    def many_deeds(self):
        """The number of deeds that stand."""
        return self._state[1]

    def log(self):
        """Return the deeds that stand."""
        return [fresh_deed(deed) for deed, _, _ in standing(self._state)]

    def programs(self):
        """Yield the first program and those after each deed that stands."""
        found = [self._first] + [program for _, _, program in standing(self._state)]
        for program in found:
            yield program

    def copy(self):
        """Return a workshop of its own with the same programs, deeds and marks."""
        other = Workshop(self._first)
        other._state = self._state
        return other

    def __eq__(self, other):
        if not isinstance(other, Workshop) or self._first != other._first:
            return False
        return [deed for deed, _, _ in standing(self._state)] == [deed for deed, _, _ in standing(other._state)]

    def mark(self, word, place):
        """Mark a statement with a word."""
        if not is_string_of_letters(word) or not 1 <= len(word) <= LONGEST_MARK:
            raise InvalidWord(word)
        steps, now, marks = self._state
        require_place(table_of_parts(program_of_state(self._first, self._state)), place)
        marks = {other: marks[other] for other in marks}
        marks[word] = (now, place)
        self._state = (steps, now, marks)

    def marks(self):
        """Return (word, place) for each mark, None for the place where its statement is not there."""
        steps, now, marks = self._state
        return [(word, place_when(steps, marks[word], now)) for word in sorted(marks)]

    def trial(self):
        """Return an object for `with` that sets the workshop back at the end of the block."""
        return Trial(self)

    def together(self, deeds, *, keep=True):
        """Do deeds one after the other and return the program that they make; set all back unless it is kept."""
        if not isinstance(deeds, list):
            raise InvalidList(deeds)
        if not isinstance(keep, bool):
            raise InvalidFlag(keep)
        state = self._state
        for deed in deeds:
            state = state_behind(self._first, state, deed)
        if keep:
            self._state = state
        return program_of_state(self._first, state)


class Trial:
    """Sets a workshop back at the end of a block, unless it is told to keep what was done in the block."""

    def __init__(self, shop):
        self._shop = shop
        # The innermost block of this object that has not ended, None if there is none.
        self._block = None

    def __enter__(self):
        self._block = Block(self._shop._state, self._block)
        return self

    def __exit__(self, kind, value, trace):
        shop = self._shop
        block = self._block
        if block._before is not None:
            shop._state = block._before
        self._block = block._outer

    def keep(self):
        """Let all that is done in the block stand."""
        block = self._block
        if block is not None:
            block._before = None


class Block:
    """What a trial keeps of a block that has not ended, so that another one of its blocks may lie within it."""

    def __init__(self, before, outer):
        # The state at the beginning of the block, None where nothing is to be set back.
        self._before = before
        # The block of the same trial in which this one lies, None if there is none.
        self._outer = outer


def require_workshop(workshop):
    """Raise an error unless an argument is a workshop."""
    if not isinstance(workshop, Workshop):
        raise InvalidWorkshop(workshop)


def moves_of(workshop):
    """Return the moves of the deeds that stand."""
    return [move for _, move, _ in standing(workshop._state)]


def standing(state):
    """Return the steps of the deeds that stand."""
    steps, now, _ = state
    return steps[:now]


def program_of_state(first, state):
    """Return the program that stands in a state, for the first program."""
    steps, now, _ = state
    return first if now == 0 else steps[now - 1][2]


def state_behind(first, state, deed):
    """Return the state behind a deed of the program that stands; what was undone is forgotten."""
    steps, now, marks = state
    parts = table_of_parts(program_of_state(first, state))
    made = program_behind(parts, deed)
    if made is None:
        raise InvalidDeed(deed)
    step = (fresh_deed(deed), move_of(parts, deed), made)
    return (steps[:now] + (step,), now + 1, {word: still_there(steps, marks[word], now) for word in marks})


def still_there(steps, mark, now):
    """Return what is kept of a mark when only so many deeds are not forgotten."""
    return mark if mark[0] <= now else (now, place_when(steps, mark, now))


def place_when(steps, mark, now):
    """Return the place that the statement of a mark has when so many deeds stand, None if it is not there."""
    then, place = mark
    moves = [move for _, move, _ in steps]
    for move in moves[then:now]:
        place = None if place is None else place_behind(move, place)
    for move in reversed(moves[now:then]):
        place = None if place is None else place_led_back(move, place)
    return place


def fresh_deed(deed):
    """Return a deed with new lists in place of all lists within it."""
    if deed[0] == "splice":
        return deed[:5] + (fresh_row(deed[5]),)
    if deed[0] == "add":
        name, many, body = deed[2]
        return deed[:2] + ((name, many, fresh_row(body)),)
    return deed
