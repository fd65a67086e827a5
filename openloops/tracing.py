"""Ways of letters: which statements write the letters that a part writes, and in which turns.

What is run is told by a *run*: a tuple (name, path, row, point) of the name of a part, the path of a row in its
body, this row, and the point at which it is run.
"""

from openloops.amounts import value_at
from openloops.basics import is_count, is_count_below, is_point
from openloops.errors import InvalidNumber, InvalidPoint, InvalidWay
from openloops.places import is_path, require_place
from openloops.programs import part_of, table_of_parts
from openloops.rows import TESTS, outcome


def way_to(program, name, point, at):
    """Return the way of the letter with the number `at` of what a part writes at a point."""
    parts, run = run_of_part(program, name, point)
    if not is_count_below(letters_of_run(parts, run, None)[0], at):
        raise InvalidNumber(at)
    way = []
    while run is not None:
        run, at = step_on_way(parts, way, run, at)
    return way


def number_of_way(program, name, point, way):
    """Return the number of the letter that is written in a way."""
    parts, run = run_of_part(program, name, point)
    if not isinstance(way, list) or way == [] or not all([is_entry(item) for item in way]):
        raise InvalidWay(way)
    number = 0
    for place, turn in way:
        found = entered(parts, run, place, turn) if run is not None else None
        if found is None:
            raise InvalidWay(way)
        run, ahead = found
        number += ahead
    # Only within a statement that writes nothing more is run.
    if run is not None:
        raise InvalidWay(way)
    return number


def written_by(program, name, point, place, at):
    """Return how many of the letters with numbers less than `at` are written by the statement at a place."""
    parts, run = run_of_part(program, name, point)
    require_place(parts, place)
    if not is_count_below(letters_of_run(parts, run, None)[0] + 1, at):
        raise InvalidNumber(at)
    return letters_ahead(parts, run, place, at)


def run_of_part(program, name, point):
    """Return the parts of a program and what is run of one of them at a point."""
    many, body = part_of(program, name)
    if not is_point(many, point):
        raise InvalidPoint(point)
    return table_of_parts(program), (name, (), body, point)


def is_entry(item):
    """Tell whether an item is made like one of a way, wherever it leads."""
    if not isinstance(item, tuple) or len(item) != 2 or not is_count(item[1]):
        return False
    place = item[0]
    return isinstance(place, tuple) and len(place) == 2 and isinstance(place[0], str) and is_path(place[1])


def place_in_run(run, at):
    """Return the place of the statement with a number in the row that is run."""
    return (run[0], run[1] + (at,))


def run_within(parts, run, at):
    """Return what a statement of the row that is run runs in its turn, None if it writes, and how often."""
    name, path, row, point = run
    statement = row[at]
    kind = statement[0]
    if kind == "write":
        return None, 1
    if kind == "call":
        values = [value_at(amount, point) for amount in statement[2]]
        return (statement[1], (), parts[statement[1]][1], values), 1
    number = value_at(statement[1], point)
    if kind in TESTS:
        branch = outcome(statement, number)
        return (name, path + (at, branch), statement[-2 + branch], point), 1
    return (name, path + (at, 0), statement[2], point), number


def letters_of_run(parts, run, place):
    """Return how many letters a run writes, and how many of them are written by the statement at a place."""
    letters, share = 0, 0
    for at in range(len(run[2])):
        more, part = letters_of_statement(parts, run, at, place)
        letters, share = letters + more, share + part
    return letters, share


def letters_of_statement(parts, run, at, place):
    """Return what `letters_of_run` does, for one statement of the row that is run."""
    inner, times = run_within(parts, run, at)
    if times == 0:
        return 0, 0
    letters, share = (len(run[2][at][1]), 0) if inner is None else letters_of_run(parts, inner, place)
    if place_in_run(run, at) == place:
        share = letters
    return letters * times, share * times


def step_on_way(parts, way, run, at):
    """Go on to the statement that writes a letter of a run, and put it behind a way, unless it is a test.

    What is run within it is returned, None for one that writes, with the number of the letter there.
    """
    number, (letters, _) = 0, letters_of_statement(parts, run, 0, None)
    while at >= letters:
        at -= letters
        number += 1
        letters, _ = letters_of_statement(parts, run, number, None)
    inner, times = run_within(parts, run, number)
    if inner is None:
        way.append((place_in_run(run, number), at))
        return None, 0
    each = letters // times
    if run[2][number][0] not in TESTS:
        way.append((place_in_run(run, number), at // each))
    return inner, at % each


def entered(parts, run, place, turn):
    """Return what is run in a turn of the statement at a place, and how many letters of a run stand ahead of that.

    For a statement that writes nothing is run, and the turn is a letter. None is returned if a run does
    not come to this statement, not within another one but a test, or not in this turn.
    """
    name, path = place
    ahead = 0
    while path[:len(run[1])] == run[1] and name == run[0] and len(run[1]) < len(path):
        at = path[len(run[1])]
        if at >= len(run[2]):
            return None
        ahead += sum([letters_of_statement(parts, run, before, None)[0] for before in range(at)])
        inner, times = run_within(parts, run, at)
        if run[2][at][0] not in TESTS:
            if place_in_run(run, at) != place:
                return None
            turns = len(run[2][at][1]) if inner is None else times
            each = 1 if inner is None else letters_of_run(parts, inner, None)[0]
            return (inner, ahead + turn * each) if turn < turns else None
        run = inner
    return None


def letters_ahead(parts, run, place, at):
    """Return how many of the letters of a run with numbers less than `at` are written by the statement at a place."""
    total = 0
    for number in range(len(run[2])):
        letters, share = letters_of_statement(parts, run, number, place)
        if at < letters:
            return total + letters_ahead_within(parts, run, number, place, at)
        total, at = total + share, at - letters
    return total


def letters_ahead_within(parts, run, number, place, at):
    """Return what `letters_ahead` does, for the letters of one statement, of which there are more than `at`."""
    inner, _ = run_within(parts, run, number)
    if place_in_run(run, number) == place:
        return at
    if inner is None:
        return 0
    letters, share = letters_of_run(parts, inner, place)
    return at // letters * share + letters_ahead(parts, inner, place, at % letters)
