"""Rows of statements: what they are made of."""

from openloops.amounts import has_amount
from openloops.basics import is_count, is_count_below, is_string_of_letters, is_whole

LONGEST_WRITE = 40
TESTS = ("below", "leaves")


def is_write(many, known, item):
    """Tell whether a tuple that begins with "write" is a statement."""
    return len(item) == 2 and is_string_of_letters(item[1]) and 1 <= len(item[1]) <= LONGEST_WRITE


def is_times(many, known, item):
    """Tell whether a tuple that begins with "times" is a statement, whatever stands in its row."""
    return len(item) == 3 and has_amount(many, item[1])


def is_below(many, known, item):
    """Tell whether a tuple that begins with "below" is a statement, whatever stands in its rows."""
    return len(item) == 5 and has_amount(many, item[1]) and is_count(item[2])


def is_leaves(many, known, item):
    """Tell whether a tuple that begins with "leaves" is a statement, whatever stands in its rows."""
    if len(item) != 6 or not has_amount(many, item[1]):
        return False
    return is_whole(item[3]) and is_count_below(item[3], item[2])


def is_call(many, known, item):
    """Tell whether a tuple that begins with "call" is a statement; `known` has the unknowns of each part."""
    if len(item) != 3 or not isinstance(item[1], str) or item[1] not in known:
        return False
    amounts = item[2]
    if not isinstance(amounts, list) or len(amounts) != known[item[1]]:
        return False
    return all([has_amount(many, amount) for amount in amounts])


CHECKS = {"write": is_write, "times": is_times, "below": is_below, "leaves": is_leaves, "call": is_call}


def is_statement(many, known, item):
    """Tell whether an item is a statement, whatever stands in its rows."""
    if not isinstance(item, tuple) or item == () or not isinstance(item[0], str) or item[0] not in CHECKS:
        return False
    check = CHECKS[item[0]]
    return check(many, known, item)


def rows_of(statement):
    """Return the rows that stand in a statement: the very objects."""
    if statement[0] == "times":
        return [statement[2]]
    return list(statement[-2:]) if statement[0] in TESTS else []


def with_rows(statement, rows):
    """Return a statement with other rows in place of those that stand in it."""
    return statement[:len(statement) - len(rows)] + tuple(rows)


def amounts_of(statement):
    """Return the amounts of a statement, without those in its rows."""
    if statement[0] == "write":
        return []
    return list(statement[2]) if statement[0] == "call" else [statement[1]]


def is_row(many, known, value):
    """Tell whether a value is a row for as many unknowns, with calls of the parts that are known.

    It may be deep, so what is still to be looked at is kept in a list.
    """
    rows = [value]
    while rows != []:
        row = rows.pop()
        if not isinstance(row, list) or not all([is_statement(many, known, item) for item in row]):
            return False
        for statement in row:
            rows.extend(rows_of(statement))
    return True


def all_statements(row):
    """Return all statements of a row, those in their rows too."""
    found, rows = [], [row]
    while rows != []:
        inner = rows.pop()
        found.extend(inner)
        for statement in inner:
            rows.extend(rows_of(statement))
    return found


def fresh_row(row):
    """Return a row with new lists in place of all lists within it."""
    found = []
    for statement in row:
        found.append(fresh_statement(statement))
    return found


def fresh_statement(statement):
    """Return a statement with new lists in place of all lists within it."""
    kind = statement[0]
    if kind == "write":
        return statement
    if kind == "times":
        return (kind, statement[1], fresh_row(statement[2]))
    if kind == "call":
        return (kind, statement[1], list(statement[2]))
    return statement[:-2] + (fresh_row(statement[-2]), fresh_row(statement[-1]))


def limit_of_test(statement):
    """Return the limit in each of whose classes a test has one outcome."""
    return (statement[2], 1) if statement[0] == "below" else (0, statement[3])


def outcome(statement, number):
    """Return the outcome of a test for the value of its amount: 0 for the first row, 1 for the second."""
    if statement[0] == "below":
        return 0 if number < statement[2] else 1
    return 0 if number % statement[3] == statement[2] else 1
