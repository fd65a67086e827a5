"""What makers write of what open texts write, as tables."""

from openloops.accepted import state_grid
from openloops.automata import rounds
from openloops.forms import form_value, plain_form
from openloops.grids import classes
from openloops.makers import letters_of_parts, maker_states, parts_made, require_maker
from openloops.pieces import MOST_MEASURE, require_measure
from openloops.tablegrids import even_grid
from openloops.tables import CaseTable
from openloops.texts import OpenText, require_text

MOST_KEPT = 50000


def made_table(text, maker):
    """Return the table that writes at each point what a maker writes of what an open text writes."""
    require_text(text)
    require_maker(maker)
    grid = state_grid(text, maker_states(maker))
    # Asked for its errors, which come ahead of those of the texts.
    even_grid(grid.limits())
    scribe = Scribe(text, maker, grid.limits())
    return CaseTable(grid, [scribe.text_in_class(point) for point in classes(grid)])


class Scribe:
    """Tells what a maker writes of an open text in the classes of a grid.

    Pieces are alike in many places and classes, so what has been told of one is kept.
    """

    def __init__(self, text, maker, limits):
        self._many = text.many()
        self._pieces = text.pieces()
        self._start = maker.start()
        self._closing = maker.closing()
        self._limits = limits
        words = {word: True for word, _ in self._pieces}
        self._book = {word: passes_of(maker, word) for word in words}
        self._kept = {}
        self._texts = {}

    def text_in_class(self, point):
        """Return the open text of what is written at the places of a class: first it is told how long all of it is."""
        forms = {form: True for _, form in self._pieces}
        turns = {form: (form_value(form, point), going_numbers(form, self._limits, point)) for form in forms}
        state, pieces, letters = self._start, [], 0
        for word, form in self._pieces:
            state, given, more = self._told(word, state, turns[form])
            pieces.extend(given)
            letters += more
        closing = self._closing[state]
        require_measure(letters + len(closing))
        return self._text(tuple(pieces + [(closing, plain_form(self._many, 1))]))

    def _text(self, pieces):
        """Return the open text of pieces."""
        if pieces not in self._texts:
            self._texts[pieces] = OpenText(self._many, list(pieces))
        return self._texts[pieces]

    def _told(self, word, state, turns):
        """Return what is told of a piece of the text that is read in a state.

        This is a tuple: the state behind it, the pieces that it gives, and their measure.
        """
        key = (word, state, turns)
        if key not in self._kept:
            if len(self._kept) >= MOST_KEPT:
                self._kept = {}
            self._kept[key] = self._worked_out(word, state, turns)
        return self._kept[key]

    def _worked_out(self, word, state, turns):
        """Return what is told of a piece, for how often its word is read, and how often more at the next place."""
        times, going = turns
        period, rows = self._book[word]
        state, trip = trip_from(rows, state, times)
        trips = [(trip, plain_form(self._many, 1))]
        if any(going):
            trips.append((trip_from(rows, state, period)[1], tuple([number // period for number in going])))
        letters = sum([letters_of_trip(rows, trip) for trip, _ in trips])
        if letters > MOST_MEASURE:
            # It will be refused, so it is not written out, however long it is.
            return state, [], letters
        pieces = [(word_of_trip(rows, trip), form) for trip, form in trips]
        return state, [(word, form) for word, form in pieces if word != ""], letters


def passes_of(maker, word):
    """Return what is told of a word that a maker reads: its period, and a row for each state.

    A row is a tuple of the state to which the word leads, what is written, in parts, and how many
    letters that are.
    """
    rows = []
    for state in range(len(maker.rows())):
        reached, parts = parts_made(maker, state, word)
        rows.append((reached, parts, letters_of_parts(parts)))
    return rounds(maker_states(maker), word)[1], rows


def trip_from(rows, state, times):
    """Return where a word leads from a state when it is read several times, and on which way.

    The way is a list of tuples (states, times): in these states, one after the other, the word is
    read, and this so many times. So it stays short, however often the word is read.
    """
    path = []
    while len(path) < times and state not in path:
        path.append(state)
        state = rows[state][0]
    left = times - len(path)
    if left == 0:
        return state, [(path, 1)]
    cycle = path[path.index(state):]
    rest = left % len(cycle)
    return cycle[rest], [(path, 1), (cycle, left // len(cycle)), (cycle[:rest], 1)]


def letters_of_trip(rows, trip):
    """Return how many letters are written on a way."""
    return sum([times * sum([rows[state][2] for state in states]) for states, times in trip])


def word_of_trip(rows, trip):
    """Return what is written on a way, which is known not to be long."""
    words = []
    for states, times in trip:
        word = "".join(["".join(rows[state][1]) for state in states])
        # What writes nothing may be read more often than any list is long.
        words.append(word * times if word != "" else "")
    return "".join(words)


def going_numbers(form, limits, point):
    """Return a form for how much oftener a word is read at the next place of each unknown in which a class goes on."""
    numbers = [number * limit[1] if count >= limit[0] else 0 for number, limit, count in zip(form[1:], limits, point)]
    return tuple([0] + numbers)
