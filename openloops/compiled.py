"""Programs compiled to tables, programs compared, and the program of a table."""

from openloops.amounts import EVERY_COUNT, needed_limits
from openloops.errors import TooMany, Unlike
from openloops.forms import form_of_unknown
from openloops.grids import Grid, classes, forms_of
from openloops.programs import MOST_WEIGHT, Program, part_of, table_of_parts
from openloops.reading import Reader
from openloops.rows import TESTS, all_statements, amounts_of, limit_of_test
from openloops.tablegrids import even_grid
from openloops.tables import CaseTable, require_table
from openloops.tableviews import parting_tables
from openloops.texts import OpenText
from openloops.writing import row_of_text, weight_of_row_of_text


def part_grid(program, name):
    """Return the grid of a part: in each of its classes each test has one outcome and each amount one form."""
    part_of(program, name)
    return Grid(limits_of_part(table_of_parts(program), name, EVERY_COUNT, {}))


def compiled(program, name):
    """Return the table that writes at each point what a part writes there."""
    grid = part_grid(program, name)
    # Asked for its errors, which come ahead of those of the reading.
    even_grid(grid.limits())
    many, body = part_of(program, name)
    reader, texts, kept = Reader(table_of_parts(program), many), [], {}
    for point in classes(grid):
        pieces, _ = reader.read(body, (name, ()), forms_of(grid.limits(), point))
        if pieces not in kept:
            kept[pieces] = OpenText(many, list(pieces))
        texts.append(kept[pieces])
    return CaseTable(grid, texts)


def same_parts(program, one, other):
    """Tell whether two parts write the same word at every point."""
    return parting_parts(program, one, other) is None


def parting_parts(program, one, other):
    """Return the least point at which two parts write different words, None if there is none."""
    many, _ = part_of(program, one)
    if part_of(program, other)[0] != many:
        raise Unlike(other)
    table = compiled(program, one)
    return parting_tables(table, compiled(program, other))


def program_of(table):
    """Return the program, of one part, that stands for all programs that write what a table writes."""
    require_table(table)
    grid = table.grid()
    cases = [(point, text) for point, text in zip(classes(grid), table.texts()) if text.pieces() != []]
    weight = sum([weight_of_tests(grid.limits(), point) + weight_of_row_of_text(text) for point, text in cases])
    if weight > MOST_WEIGHT:
        raise TooMany(weight)
    body = []
    for point, text in cases:
        body.extend(row_in_tests(grid.limits(), point, row_of_text(text, grid.limits(), point)))
    return Program([("main", grid.many(), body)])


def limits_of_part(parts, name, of_loop, known):
    """Return the limits of the grid of a part, and put those of all parts that it calls into `known`.

    `of_loop` is the limit for which the amounts of loops need limits.
    """
    many, body = parts[name]
    wants = []
    for statement in all_statements(body):
        if statement[0] == "call":
            if statement[1] not in known:
                known[statement[1]] = limits_of_part(parts, statement[1], of_loop, known)
            wants.extend(list(zip(statement[2], known[statement[1]])))
        else:
            limit = limit_of_test(statement) if statement[0] in TESTS else of_loop
            wants.extend([(amount, limit) for amount in amounts_of(statement)])
    return needed_limits(many, wants)


def row_in_tests(limits, point, row):
    """Return a row that writes in one class what a row writes, and nothing in the others."""
    many = len(limits)
    for at in reversed(range(many)):
        (threshold, period), count = limits[at], point[at]
        amount = (form_of_unknown(many, at, 0, 1), 0, 1)
        if count < threshold:
            row = [("below", amount, count + 1, row, [])]
            least = count
        else:
            row = row if period == 1 else [("leaves", amount, count % period, period, row, [])]
            least = threshold
        if least > 0:
            row = [("below", amount, least, [], row)]
    return row


def weight_of_tests(limits, point):
    """Return how many tests stand around the row of a class."""
    alone = [1 if count < threshold or period > 1 else 0 for (threshold, period), count in zip(limits, point)]
    behind = [1 if min(count, threshold) > 0 else 0 for (threshold, _), count in zip(limits, point)]
    return sum(alone) + sum(behind)
