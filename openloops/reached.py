"""What is reached: which statements whoever runs a part ever comes to, and what is left without the others."""

from openloops.basics import is_point
from openloops.compiled import limits_of_part
from openloops.errors import InvalidPoint
from openloops.grids import Grid, classes
from openloops.places import placed_statements, require_place
from openloops.pointsets import PointSet
from openloops.programs import Program, part_of, table_of_parts
from openloops.rows import TESTS, rows_of, with_rows
from openloops.visits import Visits, names_under

# The limit in whose classes a loop runs either never or at least once.
EVER = (1, 1)


def reached(program, name, place):
    """Return the set of the points at which the statement at a place is reached from a part."""
    part_of(program, name)
    parts = table_of_parts(program)
    require_place(parts, place)
    grid = reach_grid(program, name)
    return PointSet(grid, [point for point in classes(grid) if visits_at(parts, name, [point]).times_at(place) > 0])


def times_reached(program, name, place, point):
    """Return how often whoever runs a part at a point comes to the statement at a place."""
    many, _ = part_of(program, name)
    parts = table_of_parts(program)
    require_place(parts, place)
    if not is_point(many, point):
        raise InvalidPoint(point)
    return visits_at(parts, name, [point]).times_at(place)


def reach_grid(program, name):
    """Return a grid in each of whose classes a statement is reached either at all points or at none."""
    part_of(program, name)
    return Grid(limits_of_part(table_of_parts(program), name, EVER, {}))


def never_reached(program, name):
    """Return the places of all statements under a part that are reached from it at no point."""
    visits = all_visits(program, name)
    return [place for place, _ in statements_under(program, name) if visits.times_at(place) == 0]


def one_way(program, name):
    """Return (place, branch) for all tests under a part that are reached and always have one outcome."""
    visits = all_visits(program, name)
    rows = [(place, visits.branches_at(place)) for place, _ in statements_under(program, name)]
    return [(place, branches[0]) for place, branches in rows if len(branches) == 1]


def trimmed(program, name):
    """Return a program with all that is ever reached from a part, and without tests with one outcome."""
    visits = all_visits(program, name)
    parts = table_of_parts(program)
    return Program([(other, parts[other][0], trimmed_row(visits, other, (), parts[other][1]))
                    for other in parts if visits.has_run(other)])


def visits_at(parts, name, points):
    """Return the visits of whoever runs a part once at each of some points."""
    visits = Visits(parts)
    for point in points:
        visits.visit(name, point, 1)
    return visits


def all_visits(program, name):
    """Return visits in which each statement under a part is come to that ever is, with all outcomes of tests."""
    grid = reach_grid(program, name)
    return visits_at(table_of_parts(program), name, classes(grid))


def statements_under(program, name):
    """Return (place, statement) for all statements under a part, in order."""
    parts = table_of_parts(program)
    return [row for other in names_under(parts, name) for row in placed_statements(other, parts[other][1])]


def trimmed_row(visits, name, path, row):
    """Return a row without the statements that are never come to, and with outcomes in place of needless tests."""
    found = []
    for at, statement in enumerate(row):
        here = path + (at,)
        branches = visits.branches_at((name, here))
        if visits.times_at((name, here)) == 0:
            continue
        if statement[0] in TESTS and len(branches) == 1:
            found.extend(trimmed_row(visits, name, here + (branches[0],), statement[-2 + branches[0]]))
        else:
            rows = [trimmed_row(visits, name, here + (branch,), inner)
                    for branch, inner in enumerate(rows_of(statement))]
            found.append(with_rows(statement, rows))
    return found
