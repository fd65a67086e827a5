"""Programs for the tests: walked through plainly, and made at random."""

from openloops.programs import Program

N = ((0, 1), 0, 1)
M = ((0, 0, 1), 0, 1)


def plain_amount(amount, point):
    """Return the value of an amount, counted plainly."""
    form, less, by = amount
    value = form[0]
    for number, count in zip(form[1:], point):
        value += number * count
    value -= less
    return 0 if value < 0 else value // by


def walk(parts, row, point):
    """Return what a row writes at a point, by walking through its statements one by one."""
    word = ""
    for statement in row:
        kind = statement[0]
        if kind == "write":
            word += statement[1]
        elif kind == "times":
            for _ in range(plain_amount(statement[1], point)):
                word += walk(parts, statement[2], point)
        elif kind == "below":
            word += walk(parts, statement[3 if plain_amount(statement[1], point) < statement[2] else 4], point)
        elif kind == "leaves":
            left = plain_amount(statement[1], point) % statement[3]
            word += walk(parts, statement[4 if left == statement[2] else 5], point)
        else:
            body = [part for part in parts if part[0] == statement[1]][0][2]
            word += walk(parts, body, [plain_amount(amount, point) for amount in statement[2]])
    return word


def walk_part(program, name, point):
    """Return what a part writes at a point, by walking through it."""
    parts = program.parts()
    return walk(parts, [part for part in parts if part[0] == name][0][2], point)


def random_amount(chance, many, most=2):
    """Return a small amount."""
    form = tuple([chance.randint(0, most)] + [chance.choice([0, 0, 1, 1, most]) for _ in range(many)])
    return (form, chance.choice([0, 0, 0, 1, 2]), chance.choice([1, 1, 1, 2]))


def random_row(chance, many, known, depth, longest=3):
    """Return a row of random statements; `known` has (name, number of unknowns) for the parts to call."""
    return [random_statement(chance, many, known, depth) for _ in range(chance.randint(0, longest))]


def random_statement(chance, many, known, depth):
    kinds = ["write"] * 2 + (["times", "times", "below", "leaves"] if depth > 1 else []) + (["call"] if known else [])
    kind = chance.choice(kinds)
    if kind == "write":
        return ("write", "".join(chance.choice("ab") for _ in range(chance.randint(1, 3))))
    if kind == "call":
        name, wanted = chance.choice(known)
        return ("call", name, [random_amount(chance, many) for _ in range(wanted)])
    body = random_row(chance, many, known, depth - 1)
    amount = random_amount(chance, many)
    if kind == "times":
        return ("times", amount, body)
    other = random_row(chance, many, known, depth - 1)
    if kind == "below":
        return ("below", amount, chance.randint(0, 3), body, other)
    by = chance.randint(1, 2)
    return ("leaves", amount, chance.randrange(by), by, body, other)


def random_program(chance, manys, depth=3):
    """Return a program with a part for each number of unknowns; each may call those ahead of it."""
    parts, known = [], []
    for at, many in enumerate(manys):
        name = "abcdefghijkl"[at]
        parts.append((name, many, random_row(chance, many, known, depth)))
        known.append((name, many))
    return Program(parts)


class Trace:
    """What a plain walk through a part at a point comes to, statement by statement and letter by letter."""

    def __init__(self, program, name, point):
        self.parts = program.parts()
        self.visits = {}
        self.outcomes = {}
        self.letters = []
        self.ways = []
        self.run_part(name, point, [])
        self.word = "".join(self.letters)

    def run_part(self, name, point, way):
        body = [part for part in self.parts if part[0] == name][0][2]
        self.run_row(name, (), body, point, way)

    def run_row(self, name, path, row, point, way):
        for at, statement in enumerate(row):
            place = (name, path + (at,))
            self.visits[place] = self.visits.get(place, 0) + 1
            kind = statement[0]
            if kind == "write":
                for turn, letter in enumerate(statement[1]):
                    self.letters.append(letter)
                    self.ways.append(way + [(place, turn)])
            elif kind == "times":
                for turn in range(plain_amount(statement[1], point)):
                    self.run_row(name, path + (at, 0), statement[2], point, way + [(place, turn)])
            elif kind == "call":
                values = [plain_amount(amount, point) for amount in statement[2]]
                self.run_part(statement[1], values, way + [(place, 0)])
            else:
                value = plain_amount(statement[1], point)
                holds = value < statement[2] if kind == "below" else value % statement[3] == statement[2]
                branch = 0 if holds else 1
                self.outcomes.setdefault(place, set()).add(branch)
                self.run_row(name, path + (at, branch), statement[-2 + branch], point, way)


def rows_within(statement):
    """Return the rows of a statement."""
    if statement[0] == "times":
        return [statement[2]]
    return [statement[-2], statement[-1]] if statement[0] in ("below", "leaves") else []


def places_of(name, body, path=()):
    """Return (place, statement) for all statements of a body, each ahead of those in its rows."""
    found = []
    for at, statement in enumerate(body):
        found.append(((name, path + (at,)), statement))
        for branch, row in enumerate(rows_within(statement)):
            found += places_of(name, row, path + (at, branch))
    return found


def all_places(program):
    """Return (place, statement) for all statements of a program."""
    return [pair for name, _, body in program.parts() for pair in places_of(name, body)]


def under(program, name):
    """Return the names of the parts whose statements are under a part, in order."""
    bodies = {part: body for part, _, body in program.parts()}
    names, before = {name}, set()
    while names != before:
        before = set(names)
        for part in before:
            names |= {statement[1] for _, statement in places_of(part, bodies[part]) if statement[0] == "call"}
    return [part for part, _, _ in program.parts() if part in names]


def nest(depth, inner, amount=((1,), 0, 1)):
    """Return a row of loops within one another, so many deep with what stands innermost."""
    row = [inner]
    for _ in range(depth - 1):
        row = [("times", amount, row)]
    return row
