"""Programs as texts, and which line of them belongs to which statement."""

from openloops.basics import is_whole
from openloops.errors import InvalidNumber
from openloops.formtexts import amount_text
from openloops.places import require_place
from openloops.programs import require_program, table_of_parts
from openloops.rows import TESTS, rows_of


def program_text(program):
    """Return a program as a text, with a line end behind each line."""
    return "".join([line + "\n" for line, _ in placed_lines(program)])


def line_of(program, place):
    """Return the number of the line with which the statement at a place begins."""
    require_program(program)
    require_place(table_of_parts(program), place)
    return [owner for _, owner in placed_lines(program)].index(place) + 1


def place_at(program, line):
    """Return the place of the statement to which a line belongs, None for the first and last line of a part."""
    rows = placed_lines(program)
    if not is_whole(line) or not 1 <= line <= len(rows):
        raise InvalidNumber(line)
    return rows[line - 1][1]


def placed_lines(program):
    """Return (line, place of the statement to which it belongs) for all lines of the text of a program."""
    require_program(program)
    found, parts = [], table_of_parts(program)
    for name in parts:
        many, body = parts[name]
        found.append((f"part {name} {many}", None))
        add_lines(found, name, (), body)
        found.append(("end", None))
    return found


def add_lines(found, name, path, row):
    """Put the lines of a row, which has a path in the body of a part, behind others."""
    margin = "  " * (1 + len(path) // 2)
    for at, statement in enumerate(row):
        here = path + (at,)
        found.append((margin + " ".join(words_of_statement(statement)), (name, here)))
        for branch, inner in enumerate(rows_of(statement)):
            if branch == 1 and inner != []:
                found.append((margin + "else", (name, here)))
            add_lines(found, name, here + (branch,), inner)
        if rows_of(statement) != []:
            found.append((margin + "end", (name, here)))


def words_of_statement(statement):
    """Return the words of the line with which a statement begins."""
    kind = statement[0]
    if kind == "write":
        return [kind, statement[1]]
    if kind == "call":
        return [kind, statement[1]] + [amount_text(amount) for amount in statement[2]]
    amount = amount_text(statement[1])
    if kind not in TESTS:
        return [kind, amount]
    if kind == "below":
        return ["when", amount, kind, str(statement[2])]
    return ["when", amount, kind, str(statement[2]), "by", str(statement[3])]
