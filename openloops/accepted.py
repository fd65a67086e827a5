"""What automata accept of what open texts write, and automata that accept by numbers of letters."""

from openloops.automata import MOST_STATES, Automaton, require_automaton, turns_by
from openloops.basics import is_letter, is_point
from openloops.errors import InvalidPoint, InvalidSet, InvalidWord, TooMany
from openloops.forms import form_value
from openloops.grids import Grid, class_count, class_of, classes
from openloops.pointsets import PointSet, require_set
from openloops.pointviews import led_limit
from openloops.texts import powers, require_text


def state_grid(text, automaton):
    """Return a grid in each of whose classes an automaton ends in one state on what a text writes."""
    require_text(text)
    require_automaton(automaton)
    turns = turns_by_words(automaton, powers(text))
    limits = [turns[word][0] for word, _ in powers(text)]
    forms = [form for _, form in powers(text)]
    return Grid([led_limit(limits, forms, at) for at in range(text.many())])


def state_sets(text, automaton):
    """Return, for each state, the set of the points at which an automaton ends in it on what a text writes."""
    grid = state_grid(text, automaton)
    points, states = states_at_classes(text, automaton, grid)
    return [PointSet(grid, [point for point, reached in zip(points, states) if reached == state])
            for state in range(len(automaton.rows()))]


def accepted(text, automaton):
    """Return the set of the points at which an automaton accepts what a text writes."""
    grid = state_grid(text, automaton)
    points, states = states_at_classes(text, automaton, grid)
    ends = automaton.ends()
    return PointSet(grid, [point for point, reached in zip(points, states) if reached in ends])


def state_at(text, automaton, point):
    """Return the state in which an automaton ends on what a text writes at a point."""
    require_text(text)
    require_automaton(automaton)
    if not is_point(text.many(), point):
        raise InvalidPoint(point)
    return state_on_pieces(text.pieces(), turns_by_words(automaton, text.pieces()), automaton.start(), point)


def set_automaton(points, letter):
    """Return an automaton that accepts words that have a letter as often as the points of a set say."""
    require_set(points)
    if points.many() != 1:
        raise InvalidSet(points)
    if not is_letter(letter):
        raise InvalidWord(letter)
    grid = points.grid()
    counts = [point[0] for point in classes(grid)]
    if len(counts) > MOST_STATES:
        raise TooMany(len(counts))
    rows = [[class_of(grid, [count + 1])[0], count] for count in counts]
    return Automaton(letter, rows, ends=[point[0] for point in points.classes()])


def states_at_classes(text, automaton, grid):
    """Return the classes of a grid and, for each, the state in which an automaton ends on what a text writes."""
    pieces, points = text.pieces(), classes(grid)
    turns = turns_by_words(automaton, pieces)
    return points, [state_on_pieces(pieces, turns, automaton.start(), point) for point in points]


def turns_by_words(automaton, pieces):
    """Return, for each word of pieces, how it leads the states when it is taken several times."""
    words = {word: True for word, _ in pieces}
    return {word: turns_by(automaton, word) for word in words}


def state_on_pieces(pieces, turns, state, point):
    """Return the state to which what pieces write at a point leads from a state."""
    values = {form: True for _, form in pieces}
    values = {form: form_value(form, point) for form in values}
    for word, form in pieces:
        limit, table = turns[word]
        state = table[class_count(limit, values[form])][state]
    return state
