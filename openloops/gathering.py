"""What is told for the places in each class of a grid, gathered for all points."""

from math import lcm

from openloops.accepted import accepted
from openloops.automata import require_automaton
from openloops.errors import InvalidList
from openloops.grids import Grid, class_number, classes, led_forms, place_in_class, require_grid
from openloops.makers import require_maker
from openloops.maketables import made_table
from openloops.pointsets import PointSet
from openloops.tablegrids import even_grid
from openloops.tables import CaseTable, require_table
from openloops.tableviews import text_at_forms, texts_by_class


def gathered_grid(grid, inner):
    """Return a grid in each of whose classes the places lie in one class of the grid for the class of `grid`."""
    require_grid(grid)
    require_one_each(grid, inner, lambda item: isinstance(item, Grid))
    return grid_for(grid, inner)


def gathered_points(grid, sets):
    """Return the set of the points whose place belongs to the set for their class."""
    require_grid(grid)
    require_one_each(grid, sets, lambda item: isinstance(item, PointSet))
    finer = grid_for(grid, [points.grid() for points in sets])
    limits = grid.limits()
    return PointSet(finer, [point for point in classes(finer)
                            if place_in_class(grid, point) in sets[class_number(limits, point)]])


def gathered_table(grid, tables):
    """Return the table that writes at each point what the table for its class writes at its place."""
    require_grid(grid)
    require_one_each(grid, tables, lambda item: isinstance(item, CaseTable))
    finer = grid_for(grid, [table.grid() for table in tables])
    # Asked for its errors, which come ahead of those of the texts.
    even_grid(finer.limits())
    texts, kept, limits = [], {}, grid.limits()
    for point in classes(finer):
        number = class_number(limits, point)
        if number not in kept:
            kept[number] = texts_by_class(tables[number])
        forms = led_forms(finer, point, grid)
        texts.append(text_at_forms(kept[number], tables[number].grid().limits(), grid.many(), forms))
    return CaseTable(finer, texts)


def accepted_table(table, automaton):
    """Return the set of the points at which an automaton accepts what a table writes."""
    require_table(table)
    require_automaton(automaton)
    return gathered_points(table.grid(), told_of_texts(table, lambda text: accepted(text, automaton)))


def made_of_table(table, maker):
    """Return the table that writes at each point what a maker writes of what a table writes."""
    require_table(table)
    require_maker(maker)
    return gathered_table(table.grid(), told_of_texts(table, lambda text: made_table(text, maker)))


def told_of_texts(table, tell):
    """Return what a function tells of each text of a table; many texts may be equal, so it is asked once for each."""
    found, kept = [], {}
    for text in table.texts():
        pieces = tuple(text.pieces())
        if pieces not in kept:
            kept[pieces] = tell(text)
        found.append(kept[pieces])
    return found


def require_one_each(grid, value, fits):
    """Raise an error unless a value is a list with one fitting object, for as many unknowns, for each class."""
    if not isinstance(value, list) or len(value) != len(classes(grid)):
        raise InvalidList(value)
    if not all([fits(item) and item.many() == grid.many() for item in value]):
        raise InvalidList(value)


def grid_for(grid, inner):
    """Return the grid that `gathered_grid` returns, for arguments that are known to be right."""
    points, limits = classes(grid), []
    for at, (threshold, period) in enumerate(grid.limits()):
        rows = [finer.limits()[at] for finer, point in zip(inner, points) if point[at] >= threshold]
        most = max([limit[0] for limit in rows])
        turns = 1
        for limit in rows:
            turns = lcm(turns, limit[1])
        limits.append((threshold + period * most, period * turns))
    return Grid(limits)
