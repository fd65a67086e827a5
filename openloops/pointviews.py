"""Sets of points seen with one unknown less, or led by forms."""

from math import gcd, lcm

from openloops.basics import is_count, require_many
from openloops.errors import InvalidNumber
from openloops.forms import form_value, require_forms
from openloops.grids import Grid, classes
from openloops.pointsets import PointSet, least_point, require_set, require_unknown


def first_point(points):
    """Return the least point of a set, None if it is empty."""
    require_set(points)
    return least_point(points.classes())


def fixed_points(points, at, number):
    """Return the set of the points that belong to a set when a count is put back at `at`."""
    require_set_unknown(points, at)
    if not is_count(number):
        raise InvalidNumber(number)
    grid = grid_without(points, at)
    return PointSet(grid, [rest for rest in classes(grid) if put_back(rest, at, number) in points])


def some_points(points, at):
    """Return the set of the points that belong to a set with at least one count put back at `at`."""
    require_set_unknown(points, at)
    grid = grid_without(points, at)
    counts = range(sum(points.grid().limits()[at]))
    return PointSet(grid, [rest for rest in classes(grid)
                           if any([put_back(rest, at, count) in points for count in counts])])


def every_points(points, at):
    """Return the set of the points that belong to a set whatever count is put back at `at`."""
    require_set_unknown(points, at)
    grid = grid_without(points, at)
    counts = range(sum(points.grid().limits()[at]))
    return PointSet(grid, [rest for rest in classes(grid)
                           if all([put_back(rest, at, count) in points for count in counts])])


def led_points(points, many, forms):
    """Return the set of the points at which the values of forms are a point of a set."""
    grid = led_grid(points, many, forms)
    return PointSet(grid, [point for point in classes(grid)
                           if [form_value(form, point) for form in forms] in points])


def led_grid(points, many, forms):
    """Return a grid of whose classes the set consists that `led_points` returns."""
    require_set(points)
    require_many(many)
    require_forms(forms, many, points.many())
    limits = points.grid().limits()
    return Grid([led_limit(limits, forms, at) for at in range(many)])


def require_set_unknown(points, at):
    """Raise an error unless the arguments are a set and the number of one of its unknowns."""
    require_set(points)
    require_unknown(points.many(), at)


def grid_without(points, at):
    """Return the grid of a set without the limits for one unknown."""
    limits = points.grid().limits()
    return Grid(limits[:at] + limits[at + 1:])


def put_back(rest, at, count):
    """Return the point that has one count more, at `at`."""
    return rest[:at] + [count] + rest[at:]


def led_limit(limits, forms, at):
    """Return the limit that one unknown needs so that the forms in which it stands keep to theirs."""
    threshold, period = 0, 1
    for limit, form in zip(limits, forms):
        number = form[at + 1]
        if number > 0:
            # The negative twice over rounds up.
            threshold = max(threshold, -((form[0] - limit[0]) // number))
            period = lcm(period, limit[1] // gcd(limit[1], number))
    return (threshold, period)
