"""Places: which statement of a program, or which row, is meant."""

from openloops.basics import is_count
from openloops.errors import InvalidPlace
from openloops.rows import TESTS, rows_of


def is_path(value):
    """Tell whether a value is a tuple of counts."""
    return isinstance(value, tuple) and all([is_count(number) for number in value])


def row_at(body, path):
    """Return the row that a path names and the tests on the way, each with its outcome; None if there is none."""
    row, tests = body, []
    for at in range(0, len(path), 2):
        number, branch = path[at], path[at + 1]
        if number >= len(row) or branch >= len(rows_of(row[number])):
            return None
        if row[number][0] in TESTS:
            tests.append((row[number], branch))
        row = rows_of(row[number])[branch]
    return row, tests


def statement_at(parts, place):
    """Return the statement with a place in the parts of a program, None if the value names none."""
    if not isinstance(place, tuple) or len(place) != 2:
        return None
    name, path = place
    if not isinstance(name, str) or name not in parts or not is_path(path) or len(path) % 2 == 0:
        return None
    found = row_at(parts[name][1], path[:-1])
    if found is None or path[-1] >= len(found[0]):
        return None
    return found[0][path[-1]]


def require_place(parts, place):
    """Return the statement with a place in the parts of a program, or raise an error."""
    statement = statement_at(parts, place)
    if statement is None:
        raise InvalidPlace(place)
    return statement


def placed_statements(name, body):
    """Return (place, statement) for all statements of a body, each ahead of those in its rows."""
    found = []
    add_placed(found, name, (), body)
    return found


def add_placed(found, name, path, row):
    """Put (place, statement) for all statements of a row, which has a path, behind others."""
    for at, statement in enumerate(row):
        found.append(((name, path + (at,)), statement))
        for branch, inner in enumerate(rows_of(statement)):
            add_placed(found, name, path + (at, branch), inner)
