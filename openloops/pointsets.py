"""Sets of points: those that lie in certain classes of a grid."""

from openloops.basics import MOST_UNKNOWNS, is_count, is_count_below, is_point, is_whole, require_many
from openloops.errors import InvalidList, InvalidNumber, InvalidPoint, InvalidSet, Unlike
from openloops.grids import Grid, class_of, classes, meeting, require_grid


class PointSet:
    """All points that lie in one class of a grid with one of the points that are given."""

    def __init__(self, grid, points):
        require_grid(grid)
        if not isinstance(points, list) or not all([is_point(grid.many(), point) for point in points]):
            raise InvalidList(points)
        self._grid = Grid(least_limits(grid.limits(), classes_with(grid, points)))
        # A dict, so that it is told at once whether a class belongs to the set.
        self._classes = {row: True for row in classes_with(self._grid, points)}

    def many(self):
        """Return the number of unknowns."""
        return self._grid.many()

    def grid(self):
        """Return the least grid of whose classes the set consists."""
        return self._grid

    def classes(self):
        """Return the classes of the least grid that belong to the set, in order."""
        return [list(row) for row in self._classes]

    @property
    def empty(self):
        """Whether no point belongs to the set."""
        return len(self._classes) == 0

    @property
    def finite(self):
        """Whether finitely many points belong to the set."""
        limits = self._grid.limits()
        return not any([goes_on(limits, row) for row in self._classes])

    def __contains__(self, x):
        return tuple(class_of(self._grid, x)) in self._classes

    def __eq__(self, other):
        return isinstance(other, PointSet) and self._grid == other._grid and self._classes == other._classes

    def __and__(self, other):
        grid = joint_grid(self, other)
        return PointSet(grid, [point for point in classes(grid) if point in self and point in other])

    def __or__(self, other):
        grid = joint_grid(self, other)
        return PointSet(grid, [point for point in classes(grid) if point in self or point in other])

    def __sub__(self, other):
        grid = joint_grid(self, other)
        return PointSet(grid, [point for point in classes(grid) if point in self and point not in other])


def all_points(many):
    """Return the set of all points."""
    require_many(many)
    return PointSet(Grid([(0, 1)] * many), [[0] * many])


def no_points(many):
    """Return the set without a point."""
    require_many(many)
    return PointSet(Grid([(0, 1)] * many), [])


def points_from(many, at, least):
    """Return the set of the points whose count for one unknown is at least `least`."""
    require_many(many)
    require_unknown(many, at)
    if not is_count(least):
        raise InvalidNumber(least)
    return one_class(many, at, (least, 1), least)


def points_leaving(many, at, number, by):
    """Return the set of the points whose count for one unknown, divided by `by`, leaves a rest."""
    require_many(many)
    require_unknown(many, at)
    if not is_count(number):
        raise InvalidNumber(number)
    if not is_whole(by) or by <= number:
        raise InvalidNumber(by)
    return one_class(many, at, (0, by), number)


def one_point(point):
    """Return the set to which one point alone belongs."""
    if not isinstance(point, list) or len(point) > MOST_UNKNOWNS or not is_point(len(point), point):
        raise InvalidPoint(point)
    return PointSet(Grid([(count + 1, 1) for count in point]), [point])


def other_points(points):
    """Return the set of all points that do not belong to a set."""
    require_set(points)
    grid = points.grid()
    return PointSet(grid, [point for point in classes(grid) if point not in points])


def first_parting(one, other):
    """Return the least point that belongs to just one of two sets, None if they are equal."""
    require_set(one)
    grid = joint_grid(one, other)
    return least_point([point for point in classes(grid) if (point in one) != (point in other)])


def require_set(points):
    """Raise an error unless an argument is a set of points."""
    if not isinstance(points, PointSet):
        raise InvalidSet(points)


def require_unknown(many, at):
    """Raise an error unless an argument is the number of one of so many unknowns."""
    if not is_count_below(many, at):
        raise InvalidNumber(at)


def joint_grid(one, other):
    """Return the meeting of the grids of a set and of what has to be another one."""
    require_set(other)
    if one.many() != other.many():
        raise Unlike(other)
    return meeting(one.grid(), other.grid())


def one_class(many, at, limit, count):
    """Return the set of the points whose count for one unknown is in one class of a limit."""
    limits, point = [(0, 1)] * many, [0] * many
    limits[at], point[at] = limit, count
    return PointSet(Grid(limits), [point])


def least_point(points):
    """Return the point with the least sum, the first in order of these, None if there is no point."""
    return min(points, key=lambda point: (sum(point), point), default=None)


def goes_on(limits, row):
    """Tell whether a class has points without end."""
    return any([count >= limit[0] for count, limit in zip(row, limits)])


def classes_with(grid, points):
    """Return the classes in which points lie, as tuples, each once, in order."""
    return sorted({tuple(class_of(grid, point)) for point in points})


def least_limits(limits, rows):
    """Return the least limits for the set that consists of some classes of a grid.

    They can be looked for one unknown after the other: which counts of one can be told apart
    does not hang on how the other unknowns are parted.
    """
    return [least_limit(limits[at], parts_for(limits[at], rows, at)) for at in range(len(limits))]


def parts_for(limit, rows, at):
    """Return, for each count of one unknown in a class, what stands beside it in the set."""
    parts = [[] for _ in range(sum(limit))]
    for row in rows:
        parts[row[at]].append(row[:at] + row[at + 1:])
    return parts


def least_limit(limit, parts):
    """Return the least threshold and the least period for counts with which certain parts stand."""
    threshold, period = limit
    period = least_period(parts[threshold:])
    while threshold > 0 and parts[threshold - 1] == parts[threshold - 1 + period]:
        threshold = threshold - 1
    return (threshold, period)


def least_period(cycle):
    """Return the least number of items after which all items of a cycle come again."""
    steps = range(1, len(cycle) + 1)
    return min([step for step in steps if len(cycle) % step == 0 and cycle[step:] == cycle[:-step]])
