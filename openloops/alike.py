"""What parts two open texts."""

from openloops.texts import powers, require_like_texts, runs_at, size, spread
from openloops.words import same_runs


def decisive(one, other):
    """Return a point at which two open texts write the same word only if they are equal."""
    require_like_texts(one, other)
    return decisive_point(one.many(), max(size(one), size(other)), max(spread(one), spread(other)))


def parting(one, other):
    """Return the least point at which two open texts write different words, None if they are equal."""
    require_like_texts(one, other)
    if one == other:
        return None
    pieces, rivals = one.pieces(), other.pieces()
    for point in points_in_question(one.many(), 1 + len(powers(one)) + len(powers(other))):
        if not same_runs(runs_at(pieces, point), runs_at(rivals, point)):
            return point
    return None


def decisive_point(many, letters, base):
    """Return the point that decides for texts of sizes of at most `letters` and spreads of at most `base`."""
    point, number = [], letters + 1
    for _ in range(many):
        point.append(number)
        number = number * base
    return point


def points_in_question(many, most):
    """Return the points whose numbers, each increased by 1, have a product of at most `most`.

    The least one comes first: the one with the smallest sum, the first in order of these.
    """
    points = [([], 1)]
    for _ in range(many):
        points = [(point + [number], product * (number + 1))
                  for point, product in points for number in range(most // product)]
    return [point for _, point in sorted([(sum(point), point) for point, _ in points])]
