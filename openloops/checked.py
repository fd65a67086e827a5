"""What machines do with what parts of programs write, for all counts."""

from openloops.automata import moved, require_automaton
from openloops.basics import is_point
from openloops.effects import Driver
from openloops.errors import InvalidPoint
from openloops.grids import Grid, classes
from openloops.machinerows import MachineRows
from openloops.makers import letters_of_parts, parts_made, require_maker
from openloops.pointsets import PointSet, least_point
from openloops.programs import part_of, table_of_parts
from openloops.visits import names_under


def run_state(program, name, point, automaton):
    """Return the state in which an automaton ends on what a part writes at a point."""
    require_part_point(program, name, point)
    require_automaton(automaton)
    zeros = [0] * len(automaton.rows())
    driver = Driver(table_of_parts(program), lambda word: (moved(automaton, word), zeros), len(zeros))
    states, _ = driver.effect_of_row(part_of(program, name)[1], point)
    return states[automaton.start()]


def run_made_length(program, name, point, maker):
    """Return how many letters a maker writes of what a part writes at a point."""
    require_part_point(program, name, point)
    require_maker(maker)
    closing = maker.closing()
    driver = Driver(table_of_parts(program), lambda word: effect_on_maker(maker, word), len(closing))
    states, letters = driver.effect_of_row(part_of(program, name)[1], point)
    return letters[maker.start()] + len(closing[states[maker.start()]])


def machine_grid(program, name, automaton):
    """Return the machine grid of the body of a part: in its classes each state is led to one state."""
    return Grid(machine_rows(program, name, automaton)[1][1])


def state_points(program, name, automaton):
    """Return, for each state, the set of the points at which an automaton ends in it on what a part writes."""
    grid, rows = states_by_class(program, name, automaton)
    return [PointSet(grid, [point for point, reached in rows if reached == state])
            for state in range(len(automaton.rows()))]


def accepted_points(program, name, automaton):
    """Return the set of the points at which an automaton accepts what a part writes."""
    grid, rows = states_by_class(program, name, automaton)
    ends = automaton.ends()
    return PointSet(grid, [point for point, reached in rows if reached in ends])


def checked(program, name, automaton):
    """Return the least point at which an automaton does not accept what a part writes, None if there is none."""
    _, rows = states_by_class(program, name, automaton)
    ends = automaton.ends()
    return least_point([point for point, reached in rows if reached not in ends])


def require_part_point(program, name, point):
    """Raise an error unless the arguments are a program, the name of a part and a point for it."""
    many, _ = part_of(program, name)
    if not is_point(many, point):
        raise InvalidPoint(point)


def effect_on_maker(maker, word):
    """Return the effect of a word on a maker."""
    rows = [parts_made(maker, state, word) for state in range(len(maker.closing()))]
    return ([state for state, _ in rows], [letters_of_parts(parts) for _, parts in rows])


def machine_rows(program, name, automaton):
    """Return what tells of the rows under a part, for an automaton, and what is told of the body of the part."""
    part_of(program, name)
    require_automaton(automaton)
    parts, rows = table_of_parts(program), MachineRows(automaton)
    # The part itself stands last: those that it calls stand ahead of it.
    bodies = [rows.add_part(other, parts[other][0], parts[other][1]) for other in names_under(parts, name)]
    return rows, bodies[-1]


def states_by_class(program, name, automaton):
    """Return the machine grid of a part, and (class, state in which an automaton ends there) for its classes."""
    rows, body = machine_rows(program, name, automaton)
    grid = Grid(body[1])
    return grid, [(point, rows.turn_at(body, point)[automaton.start()]) for point in classes(grid)]
