"""Origins: which deeds of a workshop put statements, and wrote letters."""

from openloops.basics import is_count_below
from openloops.compiled import compiled
from openloops.errors import InvalidNumber, UnknownPart
from openloops.moves import name_ahead, place_ahead
from openloops.places import placed_statements, require_place
from openloops.programs import part_of, table_of_parts
from openloops.running import run_length
from openloops.tableviews import parting_tables
from openloops.tracing import way_to
from openloops.visits import Visits, names_under
from openloops.workshop import moves_of, require_workshop


def born(workshop, place):
    """Return the number of the deed that put the statement at a place, 0 if the first program had it."""
    require_workshop(workshop)
    require_place(table_of_parts(workshop.program), place)
    return birth(moves_of(workshop), place)


def deed_of(workshop, name, point, at):
    """Return the number of the deed that put the statement that writes a letter of a part."""
    require_workshop(workshop)
    place, _ = way_to(workshop.program, name, point, at)[-1]
    return birth(moves_of(workshop), place)


def shares(workshop, name, point):
    """Return how many letters of what a part writes were put by the first program and by each deed."""
    require_workshop(workshop)
    program, moves = workshop.program, moves_of(workshop)
    # Asked for its errors.
    run_length(program, name, point)
    parts = table_of_parts(program)
    visits = Visits(parts)
    visits.visit(name, point, 1)
    found = [0] * (len(moves) + 1)
    for other in names_under(parts, name):
        for place, statement in placed_statements(other, parts[other][1]):
            if statement[0] == "write" and visits.times_at(place) > 0:
                found[birth(moves, place)] += visits.times_at(place) * len(statement[1])
    return found


def parting_since(workshop, name, since):
    """Return the least point at which a part writes another word than when so many deeds were done, or None."""
    require_workshop(workshop)
    part_of(workshop.program, name)
    moves = moves_of(workshop)
    if not is_count_below(len(moves) + 1, since):
        raise InvalidNumber(since)
    before = name
    for move in reversed(moves[since:]):
        before = name_ahead(move, before)
        if before is None:
            raise UnknownPart(name)
    programs = [program for program in workshop.programs()]
    table = compiled(programs[since], before)
    return parting_tables(table, compiled(workshop.program, name))


def birth(moves, place):
    """Return the number of the move, from 1, that put the statement with a place behind all moves, 0 if none did."""
    number = len(moves)
    while number > 0:
        back = place_ahead(moves[number - 1], place)
        if back is None:
            return number
        place, number = back, number - 1
    return 0
