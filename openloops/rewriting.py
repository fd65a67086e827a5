"""Single steps that rewrite rows of statements so that they write the same.

Whether a rule holds is looked at for a *way*: a tuple of the parts of the program, the number of
unknowns, and the tests, each with the outcome, through which a path leads.
"""

from openloops.amounts import EVERY_COUNT, amount_behind, amount_form, amount_led, form_led, needed_limits, value_at
from openloops.basics import is_count, require_many
from openloops.errors import InvalidList, InvalidStep
from openloops.forms import form_times, is_plain, sum_of_forms
from openloops.grids import points_of
from openloops.places import is_path, row_at
from openloops.programs import require_program, table_of_parts
from openloops.rows import TESTS, amounts_of, fresh_row, is_row, limit_of_test, outcome, rows_of


def is_step(program, many, body, value):
    """Tell whether a value is a step that rewrites a row."""
    parts = require_body(program, many, body)
    if not is_shape_of_step(parts, many, value):
        return False
    rule, path, start, old, new = value
    found = row_at(body, path)
    if found is None or start + len(old) > len(found[0]) or found[0][start:start + len(old)] != old:
        return False
    way = (parts, many, found[1])
    holds = RULES[rule]
    return holds(way, old, new) or holds(way, new, old)


def stepped(program, many, body, step):
    """Return the row that a row becomes with a step."""
    if not is_step(program, many, body, step):
        raise InvalidStep(step)
    _, path, start, old, new = step
    result = fresh_row(body)
    row, _ = row_at(result, path)
    row[start:start + len(old)] = fresh_row(new)
    return result


def require_body(program, many, body):
    """Return the parts of a program, or raise an error unless the arguments are one and a row that goes with it."""
    require_program(program)
    require_many(many)
    parts = table_of_parts(program)
    if not is_row(many, unknowns_of(parts), body):
        raise InvalidList(body)
    return parts


def unknowns_of(parts):
    """Return the number of unknowns of each part."""
    return {name: parts[name][0] for name in parts}


def is_shape_of_step(parts, many, value):
    """Tell whether a value is made like a step, whatever it does."""
    if not isinstance(value, tuple) or len(value) != 5:
        return False
    rule, path, start, old, new = value
    if not isinstance(rule, str) or rule not in RULES or not is_count(start):
        return False
    if not is_path(path) or len(path) % 2 > 0:
        return False
    return is_row(many, unknowns_of(parts), old) and is_row(many, unknowns_of(parts), new)


def each_case(way, wants):
    """Yield, for cases that are all points of a way together, the forms of the amounts of wants.

    First the tests part the points into classes; then, with the places of such a class as unknowns,
    the wants part them further. Classes in which the amounts become the same are looked at once.
    """
    _, many, tests = way
    limits = needed_limits(many, [(test[1], limit_of_test(test)) for test, _ in tests])
    found = {}
    for point in points_of(limits):
        if all([outcome(test, value_at(test[1], point)) == branch for test, branch in tests]):
            found[tuple([amount_led(amount, limits, point) for amount, _ in wants])] = True
    for amounts in found:
        inner = needed_limits(many, [(amount, limit) for amount, (_, limit) in zip(amounts, wants)])
        for place in points_of(inner):
            yield [form_led(amount, inner, place) for amount in amounts]


def is_spelled(way, first, second):
    """Tell whether two rows of writes write the same word."""
    if not all([statement[0] == "write" for statement in first + second]):
        return False
    return "".join([word for _, word in first]) == "".join([word for _, word in second])


def is_summed(way, first, second):
    """Tell whether two rows of loops with one body run it equally often."""
    loops = first + second
    if not all([statement[0] == "times" for statement in loops]):
        return False
    if not all([statement[2] == loops[0][2] for statement in loops]):
        return False
    many, wants = way[1], [(statement[1], EVERY_COUNT) for statement in loops]
    for forms in each_case(way, wants):
        if sum_of_forms(many, forms[:len(first)]) != sum_of_forms(many, forms[len(first):]):
            return False
    return True


def is_unrolled(way, first, second):
    """Tell whether the second row is the body of the one loop of the first row, as often as it runs."""
    if len(first) != 1 or first[0][0] != "times":
        return False
    body, found, wants = first[0][2], None, [(first[0][1], EVERY_COUNT)]
    for forms in each_case(way, wants):
        if not is_plain(forms[0]) or (found is not None and found != forms[0][0]):
            return False
        found = forms[0][0]
    if body == []:
        return second == []
    turns = len(second) // len(body)
    return second == body * turns and (found is None or found == turns)


def is_nested(way, first, second):
    """Tell whether the loop of the second row runs as often as two loops within one another."""
    if len(first) != 1 or len(second) != 1 or first[0][0] != "times" or second[0][0] != "times":
        return False
    inner = first[0][2]
    if len(inner) != 1 or inner[0][0] != "times" or inner[0][2] != second[0][2]:
        return False
    wants = [(first[0][1], EVERY_COUNT), (inner[0][1], EVERY_COUNT), (second[0][1], EVERY_COUNT)]
    for forms in each_case(way, wants):
        # No number is below 0, so where unknowns stand in both, their product is no form.
        if not is_plain(forms[0]) and not is_plain(forms[1]):
            return False
        product = form_times(forms[0], forms[1][0]) if is_plain(forms[1]) else form_times(forms[1], forms[0][0])
        if product != forms[2]:
            return False
    return True


def is_turned(way, first, second):
    """Tell whether statements ahead of a loop have gone through it and stand behind it."""
    if first == [] or len(first) != len(second) or first[-1][0] != "times" or second[0][0] != "times":
        return False
    moving, body, mate = first[:-1], first[-1][2], second[0][2]
    if first[-1][1] != second[0][1] or second[1:] != moving or len(body) != len(mate) or len(body) < len(moving):
        return False
    rest = len(body) - len(moving)
    return body[rest:] == moving and mate[:len(moving)] == moving and body[:rest] == mate[len(moving):]


def is_either(way, first, second):
    """Tell whether both rows of the one test of the first row are the second row."""
    if len(first) != 1 or first[0][0] not in TESTS:
        return False
    return all([row == second for row in rows_of(first[0])])


def is_held(way, first, second):
    """Tell whether the second row is the only outcome of the one test of the first row."""
    if len(first) != 1 or first[0][0] not in TESTS:
        return False
    test, found = first[0], None
    wants = [(test[1], limit_of_test(test))]
    for forms in each_case(way, wants):
        branch = outcome(test, forms[0][0])
        if found is not None and found != branch:
            return False
        found = branch
    return second in rows_of(test) if found is None else second == rows_of(test)[found]


def is_called(way, first, second):
    """Tell whether the second row is the body that the one call of the first row calls, with its amounts changed."""
    if len(first) != 1 or first[0][0] != "call":
        return False
    _, name, amounts = first[0]
    many, body = way[0][name]
    pairs = pairs_of_amounts(body, second)
    if pairs is None:
        return False
    unlike = {pair: True for pair in pairs if amount_behind(pair[0], way[1], amounts) != pair[1]}
    return all([is_amount_behind(way, amounts, many, inner, outer) for inner, outer in unlike])


RULES = {"spell": is_spelled, "sum": is_summed, "unroll": is_unrolled, "nest": is_nested, "turn": is_turned,
         "either": is_either, "held": is_held, "call": is_called}


def pairs_of_amounts(row, other):
    """Return the pairs of amounts at the same places of two rows, None unless all else in them is the same."""
    pairs, rows = [], [(row, other)]
    while rows != []:
        inner, mate = rows.pop()
        if len(inner) != len(mate):
            return None
        for statement, partner in zip(inner, mate):
            if without_amounts(statement) != without_amounts(partner):
                return None
            pairs.extend(list(zip(amounts_of(statement), amounts_of(partner))))
            rows.extend(list(zip(rows_of(statement), rows_of(partner))))
    return pairs


def without_amounts(statement):
    """Return what a statement is made of but for its amounts and its rows."""
    if statement[0] in TESTS:
        return statement[:1] + statement[2:-2]
    return statement[:1] if statement[0] == "times" else statement[:2]


def is_amount_behind(way, amounts, many, inner, outer):
    """Tell whether an amount has the value that another one has at the point of the values of amounts."""
    limits = needed_limits(many, [(inner, EVERY_COUNT)])
    wants = [(outer, EVERY_COUNT)] + list(zip(amounts, limits))
    for forms in each_case(way, wants):
        if amount_form(inner, way[1], forms[1:]) != forms[0]:
            return False
    return True
