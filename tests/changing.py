"""Deeds for the tests: done plainly on rows in which each statement has a label of its own, and made at random.

A labelled row is a list of [label, statement without its rows, labelled rows]; labelled parts are a list of
[name, number of unknowns, labelled row].
"""

import random

from helpers import raised
from openloops.deeds import is_deed
from openloops.programs import Program
from walking import all_places, random_amount, random_row, rows_within


class Labels:
    """Gives labels, each once."""

    def __init__(self):
        self.last = 0

    def new(self):
        self.last += 1
        return self.last


def label_row(labels, row):
    return [[labels.new(), bare(statement), [label_row(labels, inner) for inner in rows_within(statement)]]
            for statement in row]


def bare(statement):
    return statement[:len(statement) - len(rows_within(statement))]


def label_parts(labels, program):
    return [[name, many, label_row(labels, body)] for name, many, body in program.parts()]


def plain_row(row):
    return [statement + tuple(plain_row(inner) for inner in rows) for _, statement, rows in row]


def plain_program(parts):
    """Return the program that labelled parts make, None if they make none."""
    rows = [(name, many, plain_row(row)) for name, many, row in parts]
    return Program(rows) if raised(lambda: Program(rows)) is None else None


def copied(row):
    return [[label, statement, [copied(inner) for inner in rows]] for label, statement, rows in row]


def row_named(parts, name, path):
    """Return the labelled row that a path names."""
    row = [part for part in parts if part[0] == name][0][2]
    for at in range(0, len(path), 2):
        row = row[path[at]][2][path[at + 1]]
    return row


def places_of_labels(parts):
    """Return the place of each label."""
    found = {}

    def look(name, path, row):
        for at, (label, _, rows) in enumerate(row):
            found[label] = (name, path + (at,))
            for branch, inner in enumerate(rows):
                look(name, path + (at, branch), inner)
    for name, _, row in parts:
        look(name, (), row)
    return found


def led(amount, many, amounts):
    """Return what an amount of a body is behind a call, as the document tells it; None if it cannot be told."""
    form, less, by = amount
    standing = [at for at, number in enumerate(form[1:]) if number > 0]
    if all(amounts[at][1:] == (0, 1) for at in standing):
        numbers = [form[0]] + [0] * many
        for at in standing:
            for place, number in enumerate(amounts[at][0]):
                numbers[place] += form[at + 1] * number
        return (tuple(numbers), less, by)
    if len(standing) == 1 and form[standing[0] + 1] == 1 and form[0] == 0:
        f, taken, divided = amounts[standing[0]]
        return (f, taken + divided * less, divided * by)
    return None


def led_rows(labels, origins, row, many, amounts):
    """Return a labelled row with new labels and led amounts; None within it where an amount cannot be led."""
    found = []
    for label, statement, rows in row:
        kind = statement[0]
        if kind == "call":
            statement = (kind, statement[1], [led(amount, many, amounts) for amount in statement[2]])
        elif kind != "write":
            statement = (kind, led(statement[1], many, amounts)) + statement[2:]
        fresh = labels.new()
        origins[fresh] = label
        found.append([fresh, statement, [led_rows(labels, origins, inner, many, amounts) for inner in rows]])
    return found


def plainly_done(labels, origins, parts, deed):
    """Return the labelled parts behind a deed, whatever they are; `origins` gets the labels that "in" copies."""
    kind, name = deed[0], deed[1]
    parts = [[part, many, copied(row)] for part, many, row in parts]
    numbers = {part[0]: at for at, part in enumerate(parts)}
    if kind == "splice":
        row = row_named(parts, name, deed[2])
        row[deed[3]:deed[3] + deed[4]] = label_row(labels, deed[5])
    elif kind == "rename":
        for part in parts:
            part[0] = deed[2] if part[0] == name else part[0]
            rename(part[2], name, deed[2])
    elif kind == "add":
        parts.insert(name, [deed[2][0], deed[2][1], label_row(labels, deed[2][2])])
    elif kind == "drop":
        del parts[numbers[name]]
    elif kind == "out":
        row, many = row_named(parts, name, deed[2]), parts[numbers[name]][1]
        taken = row[deed[3]:deed[3] + deed[4]]
        units = [(tuple(1 if place == at + 1 else 0 for place in range(many + 1)), 0, 1) for at in range(many)]
        row[deed[3]:deed[3] + deed[4]] = [[labels.new(), ("call", deed[5], units), []]]
        parts.insert(numbers[name], [deed[5], many, taken])
    else:
        row, many = row_named(parts, name, deed[2][:-1]), parts[numbers[name]][1]
        _, called, amounts = row[deed[2][-1]][1]
        row[deed[2][-1]:deed[2][-1] + 1] = led_rows(labels, origins, parts[numbers[called]][2], many, amounts)
    return parts


def rename(row, name, new):
    for node in row:
        if node[1][0] == "call" and node[1][1] == name:
            node[1] = ("call", new, node[1][2])
        for inner in node[2]:
            rename(inner, name, new)


def paths_of_rows(row, path=()):
    """Return (path, row) for all rows within a row, itself too."""
    found = [(path, row)]
    for at, statement in enumerate(row):
        for branch, inner in enumerate(rows_within(statement)):
            found += paths_of_rows(inner, path + (at, branch))
    return found


def random_deed(chance, program):
    """Return what is made like a deed of a program: what it names is there, but the parts that it makes may be none."""
    parts = program.parts()
    kind = chance.choice(["splice", "splice", "rename", "add", "drop", "out", "in", "in"]) if parts != [] else "add"
    new = chance.choice(["x", "y", "z", "new"] + [name for name, _, _ in parts][:1])
    if kind == "add":
        at, many = chance.randint(0, len(parts)), chance.randint(0, 3)
        known = [(name, number) for name, number, _ in parts[:at]]
        return (kind, at, (new, many, random_row(chance, many, known, 2, 2)))
    name, many, body = chance.choice(parts)
    if kind == "rename":
        return (kind, name, new)
    if kind == "drop":
        return (kind, name)
    path, row = chance.choice(paths_of_rows(body))
    start = chance.randint(0, len(row))
    taken = chance.randint(0, len(row) - start)
    if kind == "out":
        return (kind, name, path, start, taken, new)
    calls = [(part, inner, at) for part, _, rows in parts for inner, statements in paths_of_rows(rows)
             for at, statement in enumerate(statements) if statement[0] == "call"]
    if kind == "in" and calls != []:
        part, inner, at = chance.choice(calls)
        return (kind, part, inner + (at,))
    ahead = [(other, number) for other, number, _ in parts[:[part[0] for part in parts].index(name)]]
    return ("splice", name, path, start, taken, random_row(chance, many, ahead, 2, 2))


def simple_amount(chance, many):
    """Return an amount that a call can often lead on."""
    if many > 0 and chance.random() < 0.6:
        at = chance.randrange(many)
        return (tuple(1 if place == at + 1 else 0 for place in range(many + 1)), chance.choice([0, 0, 1, 2]),
                chance.choice([1, 1, 2]))
    return random_amount(chance, many, 1)


def calling_program(seed, manys=(1, 2, 1)):
    """Return a program with many calls and simple amounts."""
    chance = random.Random(seed)
    parts = []
    for at, many in enumerate(manys):
        row = []
        for _ in range(chance.randint(1, 3)):
            kind = chance.choice(["write", "times", "call", "call", "below", "leaves"])
            inner = [("write", chance.choice(["a", "b", "ab"]))]
            if parts != []:
                name, wanted, _ = chance.choice(parts)
                inner = chance.choice([inner, [("call", name, [simple_amount(chance, many) for _ in range(wanted)])]])
            if kind == "times":
                row.append((kind, simple_amount(chance, many), inner))
            elif kind == "below":
                row.append((kind, simple_amount(chance, many), chance.randint(0, 2), inner, []))
            elif kind == "leaves":
                row.append((kind, simple_amount(chance, many), 0, 2, inner, [("write", "c")]))
            else:
                row += inner
        parts.append(("abcdef"[at], many, row))
    return Program(parts)


class Story:
    """What a workshop has to tell, kept plainly: all versions with labelled statements."""

    def __init__(self, program):
        self.labels, self.origins = Labels(), {}
        self.parts = [label_parts(self.labels, program)]
        self.births = {label: 0 for label in places_of_labels(self.parts[0])}
        self.deeds, self.now, self.marked = [], 0, {}

    def do(self, deed):
        self.deeds, self.parts = self.deeds[:self.now] + [deed], self.parts[:self.now + 1]
        self.parts.append(plainly_done(self.labels, self.origins, self.parts[-1], deed))
        self.now += 1
        for label in places_of_labels(self.parts[-1]):
            if label in self.origins:
                self.births[label] = self.births[self.origins[label]]
            self.births.setdefault(label, self.now)

    def marks(self):
        places = places_of_labels(self.parts[self.now])
        return [(word, places.get(self.marked[word])) for word in sorted(self.marked)]

    def copy(self):
        other = Story(Program([]))
        other.labels, other.origins, other.births = self.labels, self.origins, self.births
        other.parts, other.deeds, other.now, other.marked = list(self.parts), list(self.deeds), self.now, dict(self.marked)
        return other


def next_deed(chance, shop):
    """Return a deed of the program that stands."""
    while True:
        deed = random_deed(chance, shop.program)
        if is_deed(shop.program, deed) and (deed[0] == "drop" or len(all_places(shop.program)) < 60):
            return deed


def random_call(chance, shop, story):
    """Do one thing with a workshop, and the same with its story."""
    kind = chance.choice(["do", "do", "undo", "undo", "redo", "mark", "mark", "together"])
    if kind == "do":
        deed = next_deed(chance, shop)
        story.do(deed)
        return shop.do(deed)
    if kind == "undo" and story.now > 0:
        story.now -= 1
        return shop.undo()
    if kind == "redo" and story.now < len(story.deeds):
        story.now += 1
        return shop.redo()
    if kind == "together":
        deeds, other = [], shop.copy()
        for _ in range(2):
            deeds.append(next_deed(chance, other))
            other.do(deeds[-1])
            story.do(deeds[-1])
        shop.together(deeds)
        return None
    places = places_of_labels(story.parts[story.now])
    if places != {}:
        label = chance.choice(sorted(places))
        word = chance.choice("abcde")
        story.marked[word] = label
        shop.mark(word, places[label])
    return None
