"""Programs for the tests: walked through plainly, and made at random."""

from openloops.programs import Program

N = ((0, 1), 0, 1)
M = ((0, 0, 1), 0, 1)


def plain_amount(amount, point):
    """Return the value of an amount, counted plainly."""
    form, less, by = amount
    value = form[0]
    for number, count in zip(form[1:], point):
        value += number * count
    value -= less
    return 0 if value < 0 else value // by


def walk(parts, row, point):
    """Return what a row writes at a point, by walking through its statements one by one."""
    word = ""
    for statement in row:
        kind = statement[0]
        if kind == "write":
            word += statement[1]
        elif kind == "times":
            for _ in range(plain_amount(statement[1], point)):
                word += walk(parts, statement[2], point)
        elif kind == "below":
            word += walk(parts, statement[3 if plain_amount(statement[1], point) < statement[2] else 4], point)
        elif kind == "leaves":
            left = plain_amount(statement[1], point) % statement[3]
            word += walk(parts, statement[4 if left == statement[2] else 5], point)
        else:
            body = [part for part in parts if part[0] == statement[1]][0][2]
            word += walk(parts, body, [plain_amount(amount, point) for amount in statement[2]])
    return word


def walk_part(program, name, point):
    """Return what a part writes at a point, by walking through it."""
    parts = program.parts()
    return walk(parts, [part for part in parts if part[0] == name][0][2], point)


def random_amount(chance, many, most=2):
    """Return a small amount."""
    form = tuple([chance.randint(0, most)] + [chance.choice([0, 0, 1, 1, most]) for _ in range(many)])
    return (form, chance.choice([0, 0, 0, 1, 2]), chance.choice([1, 1, 1, 2]))


def random_row(chance, many, known, depth, longest=3):
    """Return a row of random statements; `known` has (name, number of unknowns) for the parts to call."""
    return [random_statement(chance, many, known, depth) for _ in range(chance.randint(0, longest))]


def random_statement(chance, many, known, depth):
    kinds = ["write"] * 2 + (["times", "times", "below", "leaves"] if depth > 1 else []) + (["call"] if known else [])
    kind = chance.choice(kinds)
    if kind == "write":
        return ("write", "".join(chance.choice("ab") for _ in range(chance.randint(1, 3))))
    if kind == "call":
        name, wanted = chance.choice(known)
        return ("call", name, [random_amount(chance, many) for _ in range(wanted)])
    body = random_row(chance, many, known, depth - 1)
    amount = random_amount(chance, many)
    if kind == "times":
        return ("times", amount, body)
    other = random_row(chance, many, known, depth - 1)
    if kind == "below":
        return ("below", amount, chance.randint(0, 3), body, other)
    by = chance.randint(1, 2)
    return ("leaves", amount, chance.randrange(by), by, body, other)


def random_program(chance, manys, depth=3):
    """Return a program with a part for each number of unknowns; each may call those ahead of it."""
    parts, known = [], []
    for at, many in enumerate(manys):
        name = "abcdefghijkl"[at]
        parts.append((name, many, random_row(chance, many, known, depth)))
        known.append((name, many))
    return Program(parts)
