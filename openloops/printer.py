"""Programs as texts, and which line of them belongs to which statement."""

from openloops.basics import is_whole
from openloops.errors import InvalidNumber
from openloops.formtexts import amount_text
from openloops.places import require_place
from openloops.programs import require_program, table_of_parts
from openloops.rows import TESTS, all_statements, rows_of


def program_text(program):
    """Return a program as a text, with a line end behind each line."""
    require_program(program)
    lines, parts = [], table_of_parts(program)
    for name in parts:
        many, body = parts[name]
        lines.append(f"part {name} {many}")
        add_lines(lines, "  ", body)
        lines.append("end")
    return "".join([line + "\n" for line in lines])


def line_of(program, place):
    """Return the number of the line with which the statement at a place begins."""
    require_program(program)
    parts = table_of_parts(program)
    require_place(parts, place)
    name, path = place
    ahead = list(parts)[:list(parts).index(name)]
    line, row = 1 + sum([lines_of_part(parts, other) for other in ahead]), parts[name][1]
    for step in range(0, len(path), 2):
        line += 1 + lines_of_row(row[:path[step]])
        if step + 1 < len(path):
            rows = rows_of(row[path[step]])
            # The row behind an `else` stands behind the other row and the `else`.
            line += lines_of_row(rows[0]) + 1 if path[step + 1] == 1 else 0
            row = rows[path[step + 1]]
    return line


def place_at(program, line):
    """Return the place of the statement to which a line belongs, None for the first and last line of a part."""
    require_program(program)
    parts = table_of_parts(program)
    if not is_whole(line) or not 1 <= line <= sum([lines_of_part(parts, name) for name in parts]):
        raise InvalidNumber(line)
    for name in parts:
        many = lines_of_part(parts, name)
        if line <= many:
            return None if line in (1, many) else place_in_row((name, ()), parts[name][1], line - 1)
        line -= many
    return None


def lines_of_part(parts, name):
    """Return how many lines a part has."""
    return 2 + lines_of_row(parts[name][1])


def lines_of_row(row):
    """Return how many lines a row has: for each statement one, and its `end` and `else` where it has them."""
    found = all_statements(row)
    ends = [rows_of(statement) for statement in found if rows_of(statement) != []]
    return len(found) + len(ends) + len([rows for rows in ends if len(rows) == 2 and rows[1] != []])


def place_in_row(place, row, line):
    """Return the place of the statement to which a line belongs; `place` has the name and the path of its row."""
    at, many = 0, lines_of_row(row[:1])
    while line > many:
        line, at = line - many, at + 1
        many = lines_of_row(row[at:at + 1])
    name, here = place[0], place[1] + (at,)
    rows = rows_of(row[at])
    first = lines_of_row(rows[0]) if rows != [] else 0
    # Its own lines are the first, the last and, if there is a second row, the one behind the first row.
    if line in (1, many, first + 2):
        return (name, here)
    if line < first + 2:
        return place_in_row((name, here + (0,)), rows[0], line - 1)
    return place_in_row((name, here + (1,)), rows[1], line - first - 2)


def add_lines(lines, margin, row):
    """Put the lines of a row behind others."""
    for statement in row:
        lines.append(margin + " ".join(words_of_statement(statement)))
        for branch, inner in enumerate(rows_of(statement)):
            if branch == 1 and inner != []:
                lines.append(margin + "else")
            add_lines(lines, margin + "  ", inner)
        if rows_of(statement) != []:
            lines.append(margin + "end")


def words_of_statement(statement):
    """Return the words of the line with which a statement begins."""
    kind = statement[0]
    if kind == "write":
        return [kind, statement[1]]
    if kind == "call":
        return [kind, statement[1]] + [amount_text(amount) for amount in statement[2]]
    amount = amount_text(statement[1])
    if kind not in TESTS:
        return [kind, amount]
    if kind == "below":
        return ["when", amount, kind, str(statement[2])]
    return ["when", amount, kind, str(statement[2]), "by", str(statement[3])]
