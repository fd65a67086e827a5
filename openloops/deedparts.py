"""Which parts deeds make.

There is a function for each kind of deed. It is given the parts of a program, as `table_of_parts` tells them,
and the deed, and returns the list of parts that the deed makes, or None where what it names is not there; that
they are those of a program is told afterwards, by making one of them.
"""

from openloops.amounts import amount_behind
from openloops.basics import is_count, is_count_below
from openloops.errors import InvalidProgram
from openloops.forms import form_of_unknown
from openloops.places import is_path, row_at, statement_at
from openloops.programs import Program
from openloops.rows import TESTS, all_statements, amounts_of, rows_of, with_rows

# Of how many items the deeds of each kind are made.
ITEMS = {"splice": 6, "rename": 3, "add": 3, "drop": 2, "out": 6, "in": 3}


def program_behind(parts, value):
    """Return the program that a deed makes of one with these parts, None if the value is no deed of it."""
    if not isinstance(value, tuple) or value == () or not isinstance(value[0], str) or value[0] not in DEEDS:
        return None
    if len(value) != ITEMS[value[0]]:
        return None
    making = DEEDS[value[0]]
    made = making(parts, value)
    if made is None:
        return None
    try:
        return Program(made)
    except InvalidProgram:
        return None


def spliced(parts, deed):
    """Return the parts that a deed "splice" makes."""
    _, name, path, start, taken, row = deed
    found = row_of_deed(parts, name, path, start, taken)
    if found is None or not isinstance(row, list):
        return None
    return with_body(parts, name, path, found[:start] + row + found[start + taken:])


def renamed(parts, deed):
    """Return the parts that a deed "rename" makes."""
    _, name, new = deed
    if not is_part(parts, name) or is_part(parts, new):
        return None
    return [(new if other == name else other, parts[other][0], row_renamed(parts[other][1], name, new))
            for other in parts]


def added(parts, deed):
    """Return the parts that a deed "add" makes."""
    _, at, part = deed
    if not is_count_below(len(parts) + 1, at):
        return None
    made = listed(parts)
    return made[:at] + [part] + made[at:]


def dropped(parts, deed):
    """Return the parts that a deed "drop" makes."""
    if not is_part(parts, deed[1]):
        return None
    return [part for part in listed(parts) if part[0] != deed[1]]


def taken_out(parts, deed):
    """Return the parts that a deed "out" makes."""
    _, name, path, start, taken, new = deed
    row = row_of_deed(parts, name, path, start, taken)
    if row is None:
        return None
    many = parts[name][0]
    call = ("call", new, [(form_of_unknown(many, at, 0, 1), 0, 1) for at in range(many)])
    made = with_body(parts, name, path, row[:start] + [call] + row[start + taken:])
    at = list(parts).index(name)
    return made[:at] + [(new, many, row[start:start + taken])] + made[at:]


def put_in(parts, deed):
    """Return the parts that a deed "in" makes."""
    _, name, path = deed
    call = statement_at(parts, (name, path))
    if call is None or call[0] != "call":
        return None
    body = row_behind(parts[call[1]][1], parts[name][0], call[2])
    if body is None:
        return None
    row, _ = row_at(parts[name][1], path[:-1])
    return with_body(parts, name, path[:-1], row[:path[-1]] + body + row[path[-1] + 1:])


DEEDS = {"splice": spliced, "rename": renamed, "add": added, "drop": dropped, "out": taken_out, "in": put_in}


def is_part(parts, name):
    """Tell whether a value is the name of a part."""
    return isinstance(name, str) and name in parts


def listed(parts):
    """Return the parts as a list."""
    return [(name, parts[name][0], parts[name][1]) for name in parts]


def row_of_deed(parts, name, path, start, taken):
    """Return the row of which a deed takes statements, None if it is not there or has too few."""
    if not is_part(parts, name) or not is_path(path) or len(path) % 2 > 0:
        return None
    found = row_at(parts[name][1], path)
    if found is None or not is_count(start) or not is_count(taken) or start + taken > len(found[0]):
        return None
    return found[0]


def with_body(parts, name, path, row):
    """Return the parts as a list, with another row where a path leads in the body of one of them."""
    return [(other, many, row_with(body, path, row) if other == name else body)
            for other, many, body in listed(parts)]


def row_with(row, path, new):
    """Return a row with another row where a path leads in it."""
    if path == ():
        return new
    at, branch = path[0], path[1]
    rows = rows_of(row[at])
    rows[branch] = row_with(rows[branch], path[2:], new)
    return row[:at] + [with_rows(row[at], rows)] + row[at + 1:]


def row_renamed(row, name, new):
    """Return a row in which all calls of a part call it by a new name."""
    found = []
    for statement in row:
        if statement[0] == "call":
            found.append(("call", new if statement[1] == name else statement[1], statement[2]))
        else:
            found.append(with_rows(statement, [row_renamed(inner, name, new) for inner in rows_of(statement)]))
    return found


def row_behind(body, many, amounts):
    """Return a body with its amounts as they are behind those of a call, None if they cannot be told so."""
    kept = {amount: True for statement in all_statements(body) for amount in amounts_of(statement)}
    kept = {amount: amount_behind(amount, many, amounts) for amount in kept}
    if None in list(kept.values()):
        return None
    return row_with_amounts(body, kept)


def row_with_amounts(row, kept):
    """Return a row with other amounts, told by a dict, in place of its own."""
    found = []
    for statement in row:
        kind = statement[0]
        if kind == "call":
            found.append((kind, statement[1], [kept[amount] for amount in statement[2]]))
        elif kind in TESTS or kind == "times":
            rows = [row_with_amounts(inner, kept) for inner in rows_of(statement)]
            found.append(with_rows((kind, kept[statement[1]]) + statement[2:], rows))
        else:
            found.append(statement)
    return found
