"""Effects: what words do with the states of a machine.

An effect is a tuple (states, letters) of two lists: for each state in which a word is begun, the state in
which it ends, and how many letters are written of it.
"""

from openloops.amounts import value_at
from openloops.rows import TESTS, outcome


class Driver:
    """Tells the effects of rows of the parts of a program; `effect_of` tells that of a word."""

    def __init__(self, parts, effect_of, how_many):
        self._parts = parts
        self._effect_of = effect_of
        self._none = (list(range(how_many)), [0] * how_many)
        self._kept = {}

    def effect_of_row(self, row, point):
        """Return the effect of what a row writes at a point."""
        total = self._none
        for statement in row:
            total = effect_behind(total, self._effect_of_statement(statement, point))
        return total

    def _effect_of_statement(self, statement, point):
        """Return the effect of what a statement writes at a point."""
        kind = statement[0]
        if kind == "write":
            return self._effect_of_word(statement[1])
        if kind == "call":
            values = [value_at(amount, point) for amount in statement[2]]
            return self.effect_of_row(self._parts[statement[1]][1], values)
        number = value_at(statement[1], point)
        if kind in TESTS:
            return self.effect_of_row(statement[-2 + outcome(statement, number)], point)
        if number == 0:
            return self._none
        return effect_of_turns(self.effect_of_row(statement[2], point), number)

    def _effect_of_word(self, word):
        """Return the effect of a word."""
        if word not in self._kept:
            effect_of = self._effect_of
            self._kept[word] = effect_of(word)
        return self._kept[word]


def effect_behind(one, other):
    """Return the effect of what has one effect and, behind it, of what has another one."""
    states, letters = one
    following, more = other
    return ([following[state] for state in states],
            [number + more[state] for number, state in zip(letters, states)])


def effect_of_turns(effect, times):
    """Return the effect of what has an effect, taken so many times, however many."""
    rows = [turns_from(effect, state, times) for state in range(len(effect[0]))]
    return ([state for state, _ in rows], [number for _, number in rows])


def turns_from(effect, state, times):
    """Return where what has an effect, taken so many times, leads from a state, and how many letters are written."""
    states, letters = effect
    path = []
    while len(path) < times and state not in path:
        path.append(state)
        state = states[state]
    numbers = [letters[passed] for passed in path]
    if len(path) == times:
        return state, sum(numbers)
    first = path.index(state)
    cycle, around = path[first:], numbers[first:]
    turns, rest = divmod(times - len(path), len(cycle))
    return cycle[rest], sum(numbers) + turns * sum(around) + sum(around[:rest])
