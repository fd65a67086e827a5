"""How many points a set has, and its points by their numbers."""

from openloops.basics import is_count_below, is_point
from openloops.errors import InvalidNumber, InvalidPoint
from openloops.grids import class_count
from openloops.pointsets import require_set


def how_many_points(points):
    """Return how many points a set has, None if they are without end."""
    require_set(points)
    return len(points.classes()) if points.finite else None


def how_many_in(points, box):
    """Return how many points of a set lie in a box."""
    require_box(points, box)
    limits = points.grid().limits()
    return sum([many_below(limits, row, box) for row in points.classes()])


def how_many_ahead(points, box, point):
    """Return how many points of a set lie in a box and come before a point in order."""
    require_box(points, box)
    if not is_point(points.many(), point):
        raise InvalidPoint(point)
    limits = points.grid().limits()
    return sum([many_ahead(limits, row, box, point) for row in points.classes()])


def point_in(points, box, number):
    """Return the point with this number among the points of a set in a box, in order."""
    require_box(points, box)
    if not is_count_below(how_many_in(points, box), number):
        raise InvalidNumber(number)
    limits, rows, point = points.grid().limits(), points.classes(), []
    for at in range(len(limits)):
        ways = ways_for_counts(limits, rows, box, at)
        count, number = count_with(ways, limits[at][0], number)
        point.append(count)
        rows = [row for row in rows if row[at] == class_count(limits[at], count)]
    return point


def each_point(points, box):
    """Yield the points of a set in a box, in order."""
    require_box(points, box)
    bounds = list(box)
    limits = points.grid().limits()
    rows = [row for row in points.classes() if lies_in(row, bounds)]
    yield from each_ending(limits, rows, bounds, 0)


def require_box(points, box):
    """Raise an error unless the arguments are a set and a box for it."""
    require_set(points)
    if not is_point(points.many(), box):
        raise InvalidPoint(box)


def count_below(limit, least, bound):
    """Return how many counts that go together with the least of them are less than a bound."""
    threshold, period = limit
    if least >= bound:
        return 0
    if least < threshold:
        return 1
    return (bound - least - 1) // period + 1


def many_below(limits, row, box):
    """Return how many points of a class, or of what stands behind in a class, lie in a box."""
    ways = 1
    for limit, least, bound in zip(limits, row, box):
        ways = ways * count_below(limit, least, bound)
    return ways


def many_ahead(limits, row, box, point):
    """Return how many points of a class lie in a box and come before a point.

    They are counted by the first unknown for which they have a smaller count than the point.
    """
    total = 0
    for at, count in enumerate(point):
        smaller = count_below(limits[at], row[at], min(box[at], count))
        total += smaller * many_below(limits[at + 1:], row[at + 1:], box[at + 1:])
        if count >= box[at] or class_count(limits[at], count) != row[at]:
            return total
    return total


def ways_for_counts(limits, rows, box, at):
    """Return, for each count of one unknown in a class, how many ways in the box there are to go on."""
    ways = [0] * sum(limits[at])
    for row in rows:
        ways[row[at]] += many_below(limits[at + 1:], row[at + 1:], box[at + 1:])
    return ways


def count_with(ways, threshold, number):
    """Return the count in which a number falls, and the number that is left there.

    Each count takes as many numbers as there are ways for it; from the threshold on the ways
    come again without end, so that whole periods are passed at once.
    """
    alone, cycle, passed = ways[:threshold], ways[threshold:], 0
    if number >= sum(alone):
        passed = (number - sum(alone)) // sum(cycle)
        number -= sum(alone) + passed * sum(cycle)
        at = threshold
    else:
        at = 0
    while number >= ways[at]:
        number -= ways[at]
        at += 1
    return at + passed * len(cycle), number


def lies_in(point, box):
    """Tell whether a point lies in a box."""
    return all([count < bound for count, bound in zip(point, box)])


def each_ending(limits, rows, box, at):
    """Yield, in order, what the points of classes have from one unknown on.

    Each class has a point in the box, so that no count is tried for which nothing is yielded.
    """
    if rows == []:
        return
    if at == len(limits):
        yield []
        return
    behind = at + 1
    for count, fitting in each_count(limits, rows, box, at):
        for ending in each_ending(limits, fitting, box, behind):
            yield [count] + ending


def each_count(limits, rows, box, at):
    """Yield, in order, the counts of one unknown in a box, each with the classes that have it.

    The classes are in order and have the same counts ahead, so that the table is in order too.
    """
    threshold, period = limits[at]
    table = {}
    for row in rows:
        table.setdefault(row[at], []).append(row)
    for least in table:
        if least < threshold:
            yield least, table[least]
    cycle = [least for least in table if least >= threshold]
    added = 0
    while cycle != [] and cycle[0] + added < box[at]:
        for least in cycle:
            if least + added < box[at]:
                yield least + added, table[least]
        added += period
