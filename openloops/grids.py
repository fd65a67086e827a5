"""Grids: how points are parted into classes by thresholds and periods."""

from math import lcm

from openloops.basics import MOST_UNKNOWNS, is_count, is_point, is_whole
from openloops.errors import InvalidGrid, InvalidList, InvalidPoint, TooMany, Unlike
from openloops.forms import form_of_unknown

MOST_CLASSES = 600


class Grid:
    """Parts points into classes, by a threshold and a period for each unknown."""

    def __init__(self, limits):
        if not is_list_of_limits(limits):
            raise InvalidList(limits)
        if how_many_classes(limits) > MOST_CLASSES:
            raise TooMany(how_many_classes(limits))
        self._limits = list(limits)

    def many(self):
        """Return the number of unknowns."""
        return len(self._limits)

    def limits(self):
        """Return (threshold, period) for each unknown."""
        return list(self._limits)

    def __eq__(self, other):
        return isinstance(other, Grid) and self._limits == other._limits


def classes(grid):
    """Return all classes of a grid in order."""
    require_grid(grid)
    return points_of(grid.limits())


def each_class(grid):
    """Yield the classes of a grid in order."""
    for point in classes(grid):
        yield point


def class_of(grid, point):
    """Return the class in which a point lies."""
    require_grid_point(grid, point)
    return [class_count(limit, count) for limit, count in zip(grid.limits(), point)]


def place_in_class(grid, point):
    """Return how often, for each unknown, the period has been added to the class of a point."""
    require_grid_point(grid, point)
    return [turns_of(limit, count) for limit, count in zip(grid.limits(), point)]


def class_forms(grid, point):
    """Return the forms whose values at a place are the counts of the point with this place."""
    require_grid_point(grid, point)
    return forms_of(grid.limits(), point)


def refines(one, other):
    """Tell whether each class of `one` lies within a class of `other`."""
    require_like_grids(one, other)
    return all([limit[0] >= wide[0] and limit[1] % wide[1] == 0
                for limit, wide in zip(one.limits(), other.limits())])


def meeting(one, other):
    """Return the grid with the fewest classes that refines both grids."""
    require_like_grids(one, other)
    return Grid(meeting_limits(one.limits(), other.limits()))


def within(grid, point, finer):
    """Return the classes of `finer` that lie within the class of `grid` in which a point lies."""
    require_grid_point(grid, point)
    require_grid(finer)
    require_finer(finer, grid, finer)
    wanted = class_of(grid, point)
    return [small for small in classes(finer) if class_of(grid, small) == wanted]


def led_forms(finer, point, grid):
    """Return the forms that lead from places in a class of `finer` to places in the class of `grid`."""
    require_grid_point(finer, point)
    require_grid(grid)
    require_finer(finer, grid, grid)
    rows = list(zip(class_of(finer, point), finer.limits(), grid.limits()))
    return [form_of_unknown(grid.many(), at, turns_of(wide, count), step_of(limit, count) // wide[1])
            for at, (count, limit, wide) in enumerate(rows)]


def is_list_of_limits(value):
    """Tell whether a value is a list of limits for 0 to 3 unknowns."""
    if not isinstance(value, list) or len(value) > MOST_UNKNOWNS:
        return False
    return all([is_limit(item) for item in value])


def is_limit(value):
    """Tell whether a value is a tuple of a threshold and a period."""
    if not isinstance(value, tuple) or len(value) != 2:
        return False
    return is_count(value[0]) and is_whole(value[1]) and value[1] >= 1


def points_of(limits):
    """Return all classes of the grid with these limits in order, however many there are."""
    points = [[]]
    for threshold, period in limits:
        points = [point + [count] for point in points for count in range(threshold + period)]
    return points


def forms_of(limits, point):
    """Return the forms whose values at a place are the counts of the point with this place in a class."""
    return [form_of_unknown(len(limits), at, class_count(limit, count), step_of(limit, count))
            for at, (limit, count) in enumerate(zip(limits, point))]


def meeting_limits(one, other):
    """Return, for each unknown, the least limit that refines both of its limits."""
    return [(max(limit[0], mate[0]), lcm(limit[1], mate[1])) for limit, mate in zip(one, other)]


def how_many_classes(limits):
    """Return how many classes the grid with these limits has."""
    number = 1
    for threshold, period in limits:
        number = number * (threshold + period)
    return number


def class_count(limit, count):
    """Return the least count that goes together with a count, or the count that stands alone."""
    threshold, period = limit
    if count < threshold:
        return count
    return threshold + (count - threshold) % period


def class_number(limits, point):
    """Return the number, in order, of the class in which a point lies."""
    number = 0
    for limit, count in zip(limits, point):
        number = number * (limit[0] + limit[1]) + class_count(limit, count)
    return number


def turns_of(limit, count):
    """Return how often the period has been added to the least count that goes with a count."""
    return (count - class_count(limit, count)) // limit[1]


def step_of(limit, count):
    """Return by how much the counts that go together with a count go on: 0 if it stands alone."""
    threshold, period = limit
    return period if count >= threshold else 0


def require_grid(grid):
    """Raise an error unless an argument is a grid."""
    if not isinstance(grid, Grid):
        raise InvalidGrid(grid)


def require_grid_point(grid, point):
    """Raise an error unless the arguments are a grid and a point for it."""
    require_grid(grid)
    if not is_point(grid.many(), point):
        raise InvalidPoint(point)


def require_like_grids(one, other):
    """Raise an error unless both arguments are grids for as many unknowns."""
    require_grid(one)
    require_grid(other)
    if one.many() != other.many():
        raise Unlike(other)


def require_finer(finer, grid, argument):
    """Raise an error with an argument unless the grid `finer` refines the other one."""
    if finer.many() != grid.many() or not refines(finer, grid):
        raise Unlike(argument)
