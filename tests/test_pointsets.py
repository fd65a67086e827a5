"""Points [18] and [19]: sets of points."""

import random
import unittest

from helpers import (BIG, GREATEST, SECONDS, SET, by_sum, cube, no_point, raised, random_set, same_list_twice, seconds,
                     spoil)
from openloops.errors import InvalidGrid, InvalidList, InvalidNumber, InvalidPoint, InvalidSet, TooMany, Unlike
from openloops.grids import Grid, class_of, classes, meeting
from openloops.pointsets import (PointSet, all_points, first_parting, no_points, one_point, other_points, points_from,
                                 points_leaving)

MOST = {0: 0, 1: 30, 2: 14, 3: 9}


def members(points):
    """Return the points of a set in a cube that shows all of it, by asking for each point."""
    return [point for point in cube(points.many(), MOST[points.many()]) if point in points]


def consists_of_classes(points, limits):
    """Tell whether a set consists of classes of a grid, by points that lie in one class."""
    for point in cube(len(limits), 9 if len(limits) < 3 else 6):
        for at, (threshold, period) in enumerate(limits):
            if point[at] >= threshold:
                further = point[:at] + [point[at] + period] + point[at + 1:]
                if (point in points) != (further in points):
                    return False
    return True


class Sets(unittest.TestCase):
    def test_examples(self):
        even, odd_or_two = points_leaving(1, 0, 0, 2), PointSet(Grid([(4, 4)]), [[5], [3], [2], [7]])
        self.assertEqual([odd_or_two.grid().limits(), odd_or_two.classes(), [10 ** 20 + 1] in odd_or_two,
                          other_points(even) == points_leaving(1, 0, 1, 2)], [[(3, 2)], [[2], [3]], True, True])
        self.assertEqual([even & odd_or_two == one_point([2]), (even | odd_or_two).classes(),
                          first_parting(even, odd_or_two), [4] in even - odd_or_two], [True, [[0], [2]], [0], True])
        self.assertEqual([points_from(2, 1, 1).classes(), (points_from(2, 0, 1) | points_from(2, 1, 1)).classes(),
                          one_point([]).finite], [[[0, 1]], [[0, 1], [1, 0], [1, 1]], True])

    def test_the_points_of_a_set(self):
        chance = random.Random(18)
        for turn in range(150):
            many = turn % 4
            grid = Grid([(chance.randint(0, 3), chance.randint(1, 3)) for _ in range(many)])
            given = [[chance.randint(0, 9) for _ in range(many)] for _ in range(chance.randint(0, 12))]
            points = PointSet(grid, given)
            homes = [class_of(grid, point) for point in given]
            for point in cube(many, min(7, MOST[many])):
                self.assertIs(point in points, class_of(grid, point) in homes)
            self.assertEqual(PointSet(grid, given[::-1] + given), points)
            self.assertEqual(points.many(), many)

    def test_the_least_grid(self):
        chance = random.Random(180)
        for turn in range(200):
            points = random_set(chance, turn % 4)
            limits = points.grid().limits()
            self.assertTrue(consists_of_classes(points, limits))
            for at, (threshold, period) in enumerate(limits):
                less = [(threshold - 1, period)] if threshold > 0 else []
                less += [(low, step) for low in [threshold, 4] for step in range(1, period)]
                for limit in less:
                    self.assertFalse(consists_of_classes(points, limits[:at] + [limit] + limits[at + 1:]))
            self.assertEqual(points.classes(), [point for point in classes(points.grid()) if point in points])

    def test_empty_and_whole(self):
        for many in range(4):
            grid = Grid([(2, 3)] * many)
            for points, wanted in [(PointSet(grid, []), []), (PointSet(grid, classes(grid)), [[0] * many])]:
                self.assertEqual((points.grid().limits(), points.classes()), ([(0, 1)] * many, wanted))
            self.assertEqual(all_points(many), PointSet(grid, classes(grid)))
            self.assertEqual(no_points(many), PointSet(grid, []))
            self.assertEqual([no_points(many).empty, all_points(many).empty], [True, False])
            self.assertEqual([no_points(many).finite, all_points(many).finite], [True, many == 0])
            self.assertEqual([[GREATEST] * many in all_points(many), [GREATEST] * many in no_points(many)], [True, False])

    def test_equal_just_if_the_points_are_the_same(self):
        chance = random.Random(181)
        seen = {True: 0, False: 0}
        for turn in range(600):
            many = turn % 3
            one, other = [PointSet(Grid([(chance.randint(0, 1), chance.randint(1, 2)) for _ in range(many)]),
                                   [[chance.randint(0, 2) for _ in range(many)] for _ in range(2)]) for _ in range(2)]
            same = members(one) == members(other)
            seen[same] += 1
            self.assertIs(one == other, same)
            self.assertIs(one != other, not same)
            self.assertIs(one.grid() == other.grid() and one.classes() == other.classes(), same)
        self.assertGreater(min(seen.values()), 100)
        self.assertFalse(no_points(1) == no_points(2))

    def test_empty_and_finite(self):
        chance = random.Random(182)
        for turn in range(300):
            points = random_set(chance, turn % 4)
            found = members(points)
            self.assertIs(points.empty, found == [])
            far = [point for point in found if max(point, default=0) > 7 or points.many() == 3 and max(point) > 6]
            self.assertIs(points.finite, far == [])

    def test_what_is_handed_in_or_returned_may_be_changed(self):
        given = [[5], [3], [2], [7]]
        points = PointSet(Grid([(4, 4)]), given)
        spoil(given)
        spoil(points.classes())
        self.assertEqual(points.classes(), [[2], [3]])
        self.assertFalse(same_list_twice(points.classes()))

    def test_errors(self):
        grid = Grid([(1, 2)])
        for points in [None, [[0, 0]], ([0],), [[0], (0,)], [[True]], [[-1]], {}, [0], SET]:
            error = raised(lambda: PointSet(grid, points))
            self.assertIs(type(error), InvalidList)
            self.assertIs(error.value, points)
        self.assertIs(type(raised(lambda: PointSet(None, None))), InvalidGrid)
        for many in range(1, 4):
            for bad in no_point(many):
                error = raised(lambda: bad in all_points(many))
                self.assertIs(type(error), InvalidPoint)
                self.assertIs(error.value, bad)
        self.assertIs(type(raised(lambda: [0] in all_points(0))), InvalidPoint)


class Made(unittest.TestCase):
    def test_points_from_and_points_leaving(self):
        for many in range(1, 4):
            for at in range(many):
                for least in range(4):
                    points = points_from(many, at, least)
                    for point in cube(many, 5):
                        self.assertIs(point in points, point[at] >= least)
                for by in range(1, 5):
                    for number in range(by):
                        points = points_leaving(many, at, number, by)
                        for point in cube(many, 5):
                            self.assertIs(point in points, point[at] % by == number)

    def test_one_point(self):
        for point in [[], [0], [4], [0, 3], [2, 0, 1]]:
            points = one_point(point)
            self.assertEqual(members(points), [point])
            self.assertEqual(points.grid().limits(), [(count + 1, 1) for count in point])

    def test_other_points(self):
        chance = random.Random(19)
        for turn in range(100):
            points = random_set(chance, turn % 4)
            others = other_points(points)
            for point in cube(points.many(), min(7, MOST[points.many()])):
                self.assertIs(point in others, point not in points)
            self.assertEqual(other_points(others), points)

    def test_as_many_classes_as_allowed(self):
        self.assertEqual(points_from(1, 0, 599).grid().limits(), [(599, 1)])
        self.assertEqual(points_leaving(2, 1, 599, 600).grid().limits(), [(0, 1), (0, 600)])
        self.assertEqual(one_point([598]).grid().limits(), [(599, 1)])
        self.assertEqual(points_from(3, 2, 0), all_points(3))
        self.assertEqual(points_leaving(3, 2, 0, 1), all_points(3))
        for call, wanted in [(lambda: points_from(1, 0, 600), 601), (lambda: points_from(3, 2, BIG), BIG + 1),
                             (lambda: points_leaving(1, 0, 0, 601), 601), (lambda: points_leaving(2, 1, BIG, BIG + 7), BIG + 7),
                             (lambda: one_point([599]), 601), (lambda: one_point([23, 23]), 625),
                             (lambda: one_point([BIG, 0, 1]), 6 * (BIG + 2))]:
            error = raised(call)
            self.assertEqual((type(error), error.value), (TooMany, wanted))

    def test_wrong_numbers(self):
        for call, thing in [(lambda: points_from(2, 2, -1), 2), (lambda: points_from(0, 0, 0), 0),
                            (lambda: points_from(2, 1, -1), -1), (lambda: points_from(2, True, 0), True),
                            (lambda: points_leaving(1, 0, -1, 0), -1), (lambda: points_leaving(1, 0, 3, 3), 3),
                            (lambda: points_leaving(1, 0, 0, 0), 0), (lambda: points_leaving(1, 0, BIG + 1, BIG), BIG),
                            (lambda: points_leaving(1, 0, False, 2), False), (lambda: points_leaving(1, 0, 0, True), True)]:
            error = raised(call)
            self.assertIs(type(error), InvalidNumber)
            self.assertEqual((error.value, type(error.value)), (thing, type(thing)))


class Together(unittest.TestCase):
    def test_and_or_and_less(self):
        chance = random.Random(190)
        for turn in range(200):
            many = turn % 4
            one, other = random_set(chance, many), random_set(chance, many)
            both, least_one, less = one & other, one | other, one - other
            for point in cube(many, min(9, MOST[many])):
                self.assertIs(point in both, point in one and point in other)
                self.assertIs(point in least_one, point in one or point in other)
                self.assertIs(point in less, point in one and point not in other)

    def test_first_parting_is_the_least_point(self):
        chance = random.Random(191)
        found = {True: 0, False: 0}
        for turn in range(300):
            many = turn % 4
            one, other = random_set(chance, many), random_set(chance, many)
            if turn % 3 == 0 and many > 0:
                other = one | one_point([chance.randint(0, 2) for _ in range(many)])
            wanted = [point for point in by_sum(many, MOST[many]) if (point in one) != (point in other)]
            self.assertEqual(first_parting(one, other), wanted[0] if wanted else None)
            found[wanted == []] += 1
        self.assertGreater(min(found.values()), 20)

    def test_the_least_sum_and_then_the_first_in_order(self):
        points = one_point([0, 3]) | one_point([2, 0]) | one_point([1, 1])
        self.assertEqual(first_parting(points, no_points(2)), [1, 1])
        self.assertEqual(first_parting(no_points(2), points - one_point([1, 1])), [2, 0])

    def test_unlike_and_no_set(self):
        one, other = all_points(1), all_points(2)
        for call in [lambda: one & other, lambda: one | other, lambda: one - other, lambda: first_parting(one, other)]:
            error = raised(call)
            self.assertIs(type(error), Unlike)
            self.assertIs(error.value, other)
        self.assertIs(type(raised(lambda: first_parting(other, None))), InvalidSet)

    def test_too_many_classes(self):
        one, other = points_leaving(1, 0, 0, 25), points_leaving(1, 0, 0, 29)
        for call in [lambda: one & other, lambda: one | other, lambda: one - other, lambda: first_parting(one, other)]:
            error = raised(call)
            self.assertEqual((type(error), error.value), (TooMany, 725))
        one, other = points_leaving(1, 0, 0, 24), points_leaving(1, 0, 0, 25)
        self.assertEqual(len(classes(meeting(one.grid(), other.grid()))), 600)
        self.assertEqual(one & other, points_leaving(1, 0, 0, 600))
        self.assertEqual(first_parting(one, other), [24])

    def test_at_the_limits(self):
        chance = random.Random(192)
        grid, long = Grid([(4, 4), (4, 4), (4, 5)]), Grid([(300, 300)])
        points = PointSet(grid, [point for point in classes(grid) if chance.random() < 0.5])
        rows = PointSet(long, [point for point in classes(long) if chance.random() < 0.5])
        for call in [lambda: points & points, lambda: points | other_points(points), lambda: rows - rows,
                     lambda: first_parting(points, points), lambda: first_parting(rows, other_points(rows)),
                     lambda: PointSet(long, [[GREATEST - count] for count in range(5000)])]:
            self.assertLess(seconds(call), SECONDS)


if __name__ == "__main__":
    unittest.main()
