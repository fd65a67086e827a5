"""What rows lead the states of an automaton to, in the classes of their machine grids.

What a word does is told by a *turn*: a tuple with, for each state, the state to which the word leads.
What is *told of a row* is a tuple: the row; the limits of its machine grid; for each of its statements a list
of what is told of the rows in it, for a call of the body called; and a dict with the turns for classes.
"""

from math import lcm

from openloops.amounts import needed_limits, value_at
from openloops.automata import moved, turns_of_step
from openloops.errors import TooMany
from openloops.grids import MOST_CLASSES, class_count, how_many_classes, meeting_limits, points_of
from openloops.rows import TESTS, limit_of_test, outcome, rows_of


class MachineRows:
    """Tells of the rows of parts what the words that they write do with the states of an automaton."""

    def __init__(self, automaton):
        self._automaton = automaton
        self._still = tuple(range(len(automaton.rows())))
        self._bodies = {}
        self._of_words = {}
        self._of_turns = {}

    def add_part(self, name, many, body):
        """Tell of the body of a part; the parts that it calls have been told of."""
        self._bodies[name] = self._told(many, body)
        return self._bodies[name]

    def turn_at(self, told, point):
        """Return the turn of what a row writes at a point."""
        row, limits, inner, turns = told
        place = tuple([class_count(limit, count) for limit, count in zip(limits, point)])
        if place not in turns:
            turn = self._still
            for statement, within in zip(row, inner):
                step = self._turn_of(statement, within, place)
                turn = tuple([step[state] for state in turn])
            turns[place] = turn
        return turns[place]

    def _told(self, many, row):
        """Return what is told of a row for as many unknowns: first of the rows within it."""
        inner, limits = [], [(0, 1)] * many
        for statement in row:
            if statement[0] == "call":
                inner.append([self._bodies[statement[1]]])
            else:
                inner.append([self._told(many, within) for within in rows_of(statement)])
                for within in inner[-1]:
                    limits = meeting_limits(limits, within[1])
        wants = [want for statement, told in zip(row, inner) for want in self._wants(statement, told)]
        limits = meeting_limits(limits, needed_limits(many, wants))
        if how_many_classes(limits) > MOST_CLASSES:
            raise TooMany(how_many_classes(limits))
        return (row, limits, inner, {})

    def _wants(self, statement, told):
        """Return the wants of the amounts of a statement, without those in its rows."""
        if statement[0] == "write":
            return []
        if statement[0] == "call":
            return list(zip(statement[2], told[0][1]))
        limit = limit_of_test(statement) if statement[0] in TESTS else self._limit_of_loop(told[0])
        return [(statement[1], limit)]

    def _limit_of_loop(self, told):
        """Return the limit in whose classes a loop leads each state to one state, for what is told of its row."""
        found = {self.turn_at(told, point): True for point in points_of(told[1])}
        threshold, period = 0, 1
        for turn in found:
            limit, _ = self._rounds(turn)
            threshold, period = max(threshold, limit[0]), lcm(period, limit[1])
        return (threshold, period)

    def _turn_of(self, statement, told, point):
        """Return the turn of what a statement writes at a point."""
        kind = statement[0]
        if kind == "write":
            return self._turn_of_word(statement[1])
        if kind == "call":
            return self.turn_at(told[0], [value_at(amount, point) for amount in statement[2]])
        number = value_at(statement[1], point)
        if kind in TESTS:
            return self.turn_at(told[outcome(statement, number)], point)
        limit, seen = self._rounds(self.turn_at(told[0], point))
        return seen[class_count(limit, number)]

    def _turn_of_word(self, word):
        """Return the turn of a word."""
        if word not in self._of_words:
            self._of_words[word] = tuple(moved(self._automaton, word))
        return self._of_words[word]

    def _rounds(self, turn):
        """Return the rounds of a word with a turn, and the turns that it has when it is taken several times."""
        if turn not in self._of_turns:
            self._of_turns[turn] = turns_of_step(list(turn))
        return self._of_turns[turn]
