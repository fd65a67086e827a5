"""Point [21]: how many points there are, and points by their numbers."""

import itertools
import random
import unittest

from helpers import BIG, GREATEST, NO_SET, SECONDS, cube, no_point, raised, random_set, same_list_twice, seconds
from openloops.errors import InvalidNumber, InvalidPoint, InvalidSet
from openloops.grids import Grid, classes
from openloops.pointcounts import each_point, how_many_ahead, how_many_in, how_many_points, point_in
from openloops.pointsets import PointSet, all_points, no_points, one_point, points_from, points_leaving

PAIRS = points_leaving(2, 0, 1, 2) & points_from(2, 1, 3)


def plain_points(points, box):
    """Return the points of a set in a small box, in order, by asking for each point."""
    return [list(point) for point in itertools.product(*[range(bound) for bound in box]) if list(point) in points]


def random_box(chance, many):
    return [chance.choice([0, 1, 2, 4, 7, 9]) for _ in range(many)]


class Counts(unittest.TestCase):
    def test_examples(self):
        self.assertEqual([how_many_points(one_point([2, 2])), how_many_points(PAIRS), how_many_in(PAIRS, [5, 10 ** 20]),
                          point_in(PAIRS, [5, 10], 8)], [1, None, 199999999999999999994, [3, 4]])
        self.assertEqual([point for point in each_point(PAIRS, [4, 4])], [[1, 3], [3, 3]])

    def test_how_many_points(self):
        chance = random.Random(21)
        seen = {True: 0, False: 0}
        for turn in range(300):
            points = random_set(chance, turn % 4)
            seen[points.finite] += 1
            wanted = sum(point in points for point in cube(points.many(), 7)) if points.finite else None
            self.assertEqual(how_many_points(points), wanted)
        self.assertGreater(min(seen.values()), 30)
        some = one_point([0, 3]) | one_point([2, 0]) | one_point([1, 1])
        self.assertEqual([how_many_points(some), how_many_points(no_points(3)), how_many_points(all_points(0))], [3, 0, 1])

    def test_points_in_a_box(self):
        chance = random.Random(210)
        for turn in range(300):
            many = turn % 4
            points, box = random_set(chance, many), random_box(chance, many)
            wanted = plain_points(points, box)
            self.assertEqual(how_many_in(points, box), len(wanted))
            self.assertEqual([point for point in each_point(points, box)], wanted)
            for number in chance.sample(range(len(wanted)), min(20, len(wanted))):
                self.assertEqual(point_in(points, box, number), wanted[number])
            for number in [len(wanted), -1, True, BIG]:
                error = raised(lambda: point_in(points, box, number))
                self.assertEqual((type(error), error.value), (InvalidNumber, number))

    def test_how_many_ahead_of_any_point(self):
        chance = random.Random(211)
        for turn in range(200):
            many = turn % 4
            points, box = random_set(chance, many), random_box(chance, many)
            found = plain_points(points, box)
            for _ in range(10):
                point = [chance.randint(0, 10) for _ in range(many)]
                self.assertEqual(how_many_ahead(points, box, point), sum(other < point for other in found))

    def test_boxes_without_a_point(self):
        for box in [[0, 5], [5, 0], [1, 9], [0, 0], [9, 3], [BIG, 3]]:
            self.assertEqual(how_many_in(PAIRS, box), 0)
            self.assertEqual([point for point in each_point(PAIRS, box)], [])
            self.assertEqual(how_many_ahead(PAIRS, box, [BIG, BIG]), 0)
            self.assertIs(type(raised(lambda: point_in(PAIRS, box, 0))), InvalidNumber)

    def test_no_unknowns(self):
        self.assertEqual([how_many_in(all_points(0), []), how_many_ahead(all_points(0), [], []),
                          point_in(all_points(0), [], 0), [point for point in each_point(all_points(0), [])]],
                         [1, 0, [], [[]]])
        self.assertEqual([how_many_in(no_points(0), []), [point for point in each_point(no_points(0), [])]], [0, []])

    def test_great_boxes(self):
        chance = random.Random(212)
        far = 10 ** 300
        for turn in range(150):
            many = 1 + turn % 3
            points = random_set(chance, many)
            box = [chance.choice([3, BIG, GREATEST, far]) for _ in range(many)]
            total = how_many_in(points, box)
            for number in {0, 1, total // 3, total // 2, total - 2, total - 1}:
                if 0 <= number < total:
                    point = point_in(points, box, number)
                    self.assertIn(point, points)
                    self.assertTrue(all(count < bound for count, bound in zip(point, box)))
                    self.assertEqual(how_many_ahead(points, box, point), number)
                    self.assertEqual(how_many_ahead(points, box, point[:-1] + [point[-1] + 1]), number + 1)
            self.assertEqual(how_many_ahead(points, box, [far] * many), total)
            self.assertEqual(how_many_ahead(points, box, [0] * many), 0)
            self.assertIs(type(raised(lambda: point_in(points, box, total))), InvalidNumber)

    def test_numbers_of_great_boxes(self):
        self.assertEqual(how_many_in(all_points(3), [BIG, GREATEST, 10 ** 50]), BIG * GREATEST * 10 ** 50)
        self.assertEqual(how_many_in(points_leaving(1, 0, 3, 7), [BIG]), (BIG - 4) // 7 + 1)
        self.assertEqual(point_in(points_leaving(1, 0, 3, 7), [BIG], BIG // 8), [BIG // 8 * 7 + 3])


class EachPoint(unittest.TestCase):
    def test_at_once_but_for_the_points_that_are_yielded(self):
        few = one_point([0, 20]) | one_point([20, 0]) | one_point([9, 9])
        box = [GREATEST, 10 ** 100]
        self.assertEqual([point for point in each_point(few, box)], [[0, 20], [9, 9], [20, 0]])
        self.assertEqual([point for point in each_point(points_leaving(2, 0, 5, 600), [600, 3])], [[5, 0], [5, 1], [5, 2]])
        self.assertEqual([point for point in each_point(points_from(2, 1, 2), [BIG, 2])], [])
        self.assertEqual([point for point in each_point(points_from(3, 1, 2), [BIG, BIG, 0])], [])

    def test_the_first_of_very_many(self):
        for points, wanted in [(all_points(3), [[0, 0, number] for number in range(9)]),
                               (points_leaving(3, 2, 8, 9), [[0, 0, 8 + 9 * number] for number in range(9)])]:
            found = []
            for point in each_point(points, [GREATEST] * 3):
                if len(found) == 9:
                    break
                found.append(point)
            self.assertEqual(found, wanted)

    def test_the_box_as_it_is_when_the_loop_begins(self):
        box = [0, 0]
        generator = each_point(PAIRS, box)
        box[:] = [4, 4]
        found = [next(generator)]
        box[:] = [BIG, BIG]
        self.assertEqual(found + list(generator), [[1, 3], [3, 3]])

    def test_errors_come_when_the_loop_begins(self):
        for bad in NO_SET:
            generator = each_point(bad, None)
            error = raised(lambda: next(generator))
            self.assertIs(type(error), InvalidSet)
            self.assertIs(error.value, bad)
        for bad in no_point(2):
            generator = each_point(PAIRS, bad)
            error = raised(lambda: next(generator))
            self.assertIs(type(error), InvalidPoint)
            self.assertIs(error.value, bad)

    def test_points_that_are_yielded_belong_to_the_caller(self):
        found = []
        for point in each_point(PAIRS, [4, 6]):
            found.append(list(point))
            point.clear()
        self.assertEqual(found, plain_points(PAIRS, [4, 6]))
        self.assertFalse(same_list_twice([point for point in each_point(PAIRS, [4, 6])]))


class Wrong(unittest.TestCase):
    def test_boxes_and_points_for_each_number_of_unknowns(self):
        for many in range(1, 4):
            points, zero = all_points(many), [0] * many
            for bad in no_point(many):
                for call in [lambda: how_many_in(points, bad), lambda: how_many_ahead(points, bad, None),
                             lambda: how_many_ahead(points, zero, bad), lambda: point_in(points, bad, -1)]:
                    error = raised(call)
                    self.assertIs(type(error), InvalidPoint)
                    self.assertIs(error.value, bad)

    def test_at_the_limits(self):
        chance = random.Random(213)
        grid = Grid([(4, 4), (4, 4), (4, 5)])
        points = PointSet(grid, [point for point in classes(grid) if chance.random() < 0.5])
        box = [10 ** 1000] * 3
        total = how_many_in(points, box)
        for call in [lambda: how_many_in(points, box), lambda: point_in(points, box, total - 1),
                     lambda: how_many_ahead(points, box, [10 ** 999] * 3), lambda: list(each_point(points, [30] * 3))]:
            self.assertLess(seconds(call), SECONDS)


if __name__ == "__main__":
    unittest.main()
