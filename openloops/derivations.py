"""Chains of single steps that lead from one part to another one that writes the same."""

from openloops.compiled import parting_parts, part_grid
from openloops.errors import TooMany
from openloops.forms import form_of_unknown
from openloops.grids import classes, meeting
from openloops.programs import table_of_parts
from openloops.rows import fresh_row
from openloops.settling import Settler

MOST_CASES = 12


def derivation(program, one, other):
    """Return steps that lead from the body of a part to that of another one, None if they do not write the same.

    Both bodies are led to the same row, one of tests for the classes of both grids and in them of
    the normal pieces; the steps that lead to it from the second body are then gone back.
    """
    parting = parting_parts(program, one, other)
    grid = meeting(part_grid(program, one), part_grid(program, other))
    if len(classes(grid)) > MOST_CASES:
        raise TooMany(len(classes(grid)))
    if parting is not None:
        return None
    parts = table_of_parts(program)
    if parts[one][1] == parts[other][1]:
        return []
    there = steps_to_cases(parts, grid.limits(), parts[one][1])
    back = steps_to_cases(parts, grid.limits(), parts[other][1])
    returning = [(rule, path, start, new, old) for rule, path, start, old, new in reversed(back)]
    return [(rule, path, start, fresh_row(old), fresh_row(new)) for rule, path, start, old, new in there + returning]


def steps_to_cases(parts, limits, body):
    """Return the steps that lead from a body to one settled row for each class of a grid."""
    steps, cases = [], []
    part_by_tests(steps, cases, limits, (), body, [])
    for path, point in cases:
        settler = Settler(parts, limits, point)
        settler.settle(path, list(body))
        steps.extend(settler.steps())
    return steps


def part_by_tests(steps, cases, limits, path, body, point):
    """Put tests around a body until each class of a grid comes to one row alone.

    `point` has the counts of the class for the first unknowns; the steps, and the paths of the rows
    with their classes, are put behind those that are there.
    """
    at = len(point)
    if at == len(limits):
        cases.append((path, point))
        return
    threshold, period = limits[at]
    amount = (form_of_unknown(len(limits), at, 0, 1), 0, 1)
    for count in range(threshold + period - 1):
        if count < threshold:
            test = ("below", amount, count + 1, body, body)
        else:
            test = ("leaves", amount, count % period, period, body, body)
        steps.append(("either", path, 0, body, [test]))
        part_by_tests(steps, cases, limits, path + (0, 0), body, point + [count])
        path = path + (0, 1)
    part_by_tests(steps, cases, limits, path, body, point + [threshold + period - 1])
