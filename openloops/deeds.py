"""Deeds: changes of programs, and what each of them changes."""

from openloops.compiled import compiled
from openloops.deedparts import program_behind
from openloops.errors import InvalidDeed
from openloops.moves import move_of, place_ahead, place_behind
from openloops.places import require_place
from openloops.programs import require_program, table_of_parts
from openloops.tableviews import parting_tables
from openloops.visits import names_calling


def is_deed(program, value):
    """Tell whether a value is a deed of a program."""
    require_program(program)
    return program_behind(table_of_parts(program), value) is not None


def changed(program, deed):
    """Return the program that a deed makes of a program."""
    require_program(program)
    made = program_behind(table_of_parts(program), deed)
    if made is None:
        raise InvalidDeed(deed)
    return made


def followed(program, deed, place):
    """Return the place, behind a deed, of the statement with a place in a program, None if it is gone."""
    changed(program, deed)
    parts = table_of_parts(program)
    require_place(parts, place)
    return place_behind(move_of(parts, deed), place)


def came_from(program, deed, place):
    """Return the place in a program of the statement from which one behind a deed comes, None if there is none."""
    require_place(table_of_parts(changed(program, deed)), place)
    return place_ahead(move_of(table_of_parts(program), deed), place)


def may_change(program, deed):
    """Return the names of the parts that may write other words behind a deed than ahead of it."""
    changed(program, deed)
    if deed[0] != "splice":
        return []
    return names_calling(table_of_parts(program), deed[1])


def parts_changed(program, deed):
    """Return (name, point) for each part that writes other words behind a deed, with the least point where it does."""
    made, found = changed(program, deed), []
    for name in may_change(program, deed):
        table = compiled(program, name)
        point = parting_tables(table, compiled(made, name))
        if point is not None:
            found.append((name, point))
    return found
