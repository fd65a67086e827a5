"""Programs: parts with loops and tests of counts that call one another."""

from openloops.amounts import has_amount, value_at
from openloops.basics import MOST_UNKNOWNS, is_count_below, is_point, is_string_of_letters, require_many
from openloops.errors import InvalidAmount, InvalidPoint, InvalidProgram, UnknownPart
from openloops.rows import fresh_row, is_statement, rows_of

MOST_PARTS = 12
LONGEST_NAME = 12
MOST_DEPTH = 12
MOST_WEIGHT = 5000


class Program:
    """Parts with names, each of which may call those ahead of it."""

    def __init__(self, parts):
        if not isinstance(parts, list) or len(parts) > MOST_PARTS:
            raise InvalidProgram(parts)
        known, many_of = {}, {}
        for item in parts:
            told = weight_and_depth(known, many_of, item)
            if told is None:
                raise InvalidProgram(item)
            known[item[0]], many_of[item[0]] = told, item[1]
        self._parts = fresh_parts(parts)

    def parts(self):
        """Return the parts."""
        return fresh_parts(self._parts)

    def __eq__(self, other):
        return isinstance(other, Program) and self._parts == other._parts


def is_amount(many, value):
    """Tell whether a value is an amount for as many unknowns."""
    require_many(many)
    return has_amount(many, value)


def amount_value(amount, point):
    """Return the value of an amount at a point."""
    if not any([has_amount(many, amount) for many in range(MOST_UNKNOWNS + 1)]):
        raise InvalidAmount(amount)
    if not is_point(len(amount[0]) - 1, point):
        raise InvalidPoint(point)
    return value_at(amount, point)


def weight_and_depth(known, many_of, item):
    """Return the weight of a part and its greatest depth, None if it is no part that may stand at its place.

    `known` has these two for the parts ahead of it, `many_of` the numbers of their unknowns.
    What the same row object is used for is counted each time, so that counting ends at the limit.
    """
    if not isinstance(item, tuple) or len(item) != 3:
        return None
    name, many, body = item
    if not is_name(name) or name in known or not is_count_below(MOST_UNKNOWNS + 1, many):
        return None
    weight, deepest, rows = 0, 0, [(body, 1)]
    while rows != []:
        row, depth = rows.pop()
        if not isinstance(row, list):
            return None
        for statement in row:
            if not is_statement(many, many_of, statement):
                return None
            more, below = known[statement[1]] if statement[0] == "call" else (0, 0)
            weight, deepest = weight + 1 + more, max(deepest, depth + below)
            if weight > MOST_WEIGHT or deepest > MOST_DEPTH:
                return None
            rows.extend([(inner, depth + 1) for inner in rows_of(statement)])
    return weight, deepest


def fresh_parts(parts):
    """Return a list of parts with new lists in place of all lists within it."""
    return [(name, many, fresh_row(body)) for name, many, body in parts]


def is_name(value):
    """Tell whether a value can be the name of a part."""
    return is_string_of_letters(value) and 1 <= len(value) <= LONGEST_NAME


def require_program(program):
    """Raise an error unless an argument is a program."""
    if not isinstance(program, Program):
        raise InvalidProgram(program)


def table_of_parts(program):
    """Return (number of unknowns, body) for each name of a part; the bodies are only to be read."""
    return {name: (many, body) for name, many, body in program._parts}


def part_of(program, name):
    """Return (number of unknowns, body) for a part; the body is only to be read."""
    require_program(program)
    parts = table_of_parts(program)
    if not isinstance(name, str) or name not in parts:
        raise UnknownPart(name)
    return parts[name]
