"""What makers write of what open texts write, as tables."""

from openloops.accepted import state_grid
from openloops.automata import rounds
from openloops.forms import form_value, plain_form
from openloops.grids import classes
from openloops.makers import letters_of_parts, maker_states, parts_made, require_maker
from openloops.pieces import require_measure
from openloops.tablegrids import even_grid
from openloops.tables import CaseTable
from openloops.texts import OpenText, require_text


def made_table(text, maker):
    """Return the table that writes at each point what a maker writes of what an open text writes."""
    require_text(text)
    require_maker(maker)
    grid = state_grid(text, maker_states(maker))
    # Asked for its errors, which come ahead of those of the texts.
    even_grid(grid.limits())
    words = {word: True for word, _ in text.pieces()}
    book = {word: passes_of(maker, word) for word in words}
    texts = [made_text(text, maker, book, grid.limits(), point) for point in classes(grid)]
    return CaseTable(grid, texts)


def passes_of(maker, word):
    """Return what is told of a word that a maker reads: its period, and a row for each state.

    A row is a tuple of the state to which the word leads, what is written, in parts, and how many
    letters that are.
    """
    rows = []
    for state in range(len(maker.rows())):
        reached, parts = parts_made(maker, state, word)
        rows.append((reached, parts, letters_of_parts(parts)))
    return rounds(maker_states(maker), word)[1], rows


def made_text(text, maker, book, limits, point):
    """Return the open text of what a maker writes in a class: first it is told how long all of it is."""
    many, state, trips = text.many(), maker.start(), []
    values = {form: form_value(form, point) for _, form in text.pieces()}
    for word, form in text.pieces():
        period, rows = book[word]
        state, trip = trip_from(rows, state, values[form])
        trips.append((rows, trip, plain_form(many, 1)))
        going = going_form(form, limits, point, period)
        if any(going):
            trips.append((rows, trip_from(rows, state, period)[1], going))
    closing = maker.closing()[state]
    require_measure(len(closing) + sum([letters_of_trip(rows, trip) for rows, trip, _ in trips]))
    pieces = [(word_of_trip(rows, trip), form) for rows, trip, form in trips]
    pieces = [(word, form) for word, form in pieces if word != ""]
    return OpenText(many, pieces + [(closing, plain_form(many, 1))])


def trip_from(rows, state, times):
    """Return where a word leads from a state when it is read several times, and on which way.

    The way is a list of tuples (states, times): in these states, one after the other, the word is
    read, and this so many times. So it stays short, however often the word is read.
    """
    path = []
    while len(path) < times and state not in path:
        path.append(state)
        state = rows[state][0]
    left = times - len(path)
    if left == 0:
        return state, [(path, 1)]
    cycle = path[path.index(state):]
    rest = left % len(cycle)
    return cycle[rest], [(path, 1), (cycle, left // len(cycle)), (cycle[:rest], 1)]


def letters_of_trip(rows, trip):
    """Return how many letters are written on a way."""
    return sum([times * sum([rows[state][2] for state in states]) for states, times in trip])


def word_of_trip(rows, trip):
    """Return what is written on a way, which is known not to be long."""
    words = []
    for states, times in trip:
        word = "".join(["".join(rows[state][1]) for state in states])
        # What writes nothing may be read more often than any list is long.
        words.append(word * times if word != "" else "")
    return "".join(words)


def going_form(form, limits, point, period):
    """Return how often a word is read `period` times more, at the place of a point in its class."""
    numbers = [number * limit[1] // period if count >= limit[0] else 0
               for number, limit, count in zip(form[1:], limits, point)]
    return tuple([0] + numbers)
