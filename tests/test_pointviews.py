"""Point [20]: the first point, one unknown less, and sets led by forms."""

import random
import unittest

from helpers import BIG, GREATEST, SECONDS, by_sum, cube, no_forms, plain_value, raised, random_set, seconds
from openloops.errors import InvalidList, InvalidNumber, TooMany
from openloops.grids import Grid, class_of, classes, refines
from openloops.pointsets import PointSet, all_points, no_points, one_point, other_points, points_from, points_leaving
from openloops.pointviews import every_points, first_point, fixed_points, led_grid, led_points, some_points

PAIRS = points_leaving(2, 0, 1, 2) & points_from(2, 1, 3)


class Views(unittest.TestCase):
    def test_examples(self):
        self.assertEqual([first_point(PAIRS), some_points(PAIRS, 0) == points_from(1, 0, 3)], [[1, 3], True])
        self.assertEqual([fixed_points(PAIRS, 0, 10 ** 9 + 1) == points_from(1, 0, 3),
                          every_points(other_points(PAIRS), 1) == points_leaving(1, 0, 0, 2)], [True, True])
        self.assertEqual([led_points(PAIRS, 1, [(0, 3), (0, 1)]).classes(),
                          led_grid(PAIRS, 1, [(0, 3), (0, 1)]).limits()], [[[3]], [(3, 2)]])

    def test_first_point(self):
        chance = random.Random(20)
        for turn in range(300):
            points = random_set(chance, turn % 4)
            wanted = [point for point in by_sum(points.many(), 9) if point in points]
            self.assertEqual(first_point(points), wanted[0] if wanted else None)
        self.assertEqual([first_point(no_points(2)), first_point(all_points(2)), first_point(all_points(0))],
                         [None, [0, 0], []])
        self.assertEqual(first_point(one_point([0, 3]) | one_point([2, 0])), [2, 0])
        self.assertEqual(first_point(one_point([2, 0]) | one_point([1, 1]) | one_point([0, 2])), [0, 2])

    def test_one_unknown_less(self):
        chance = random.Random(200)
        for turn in range(200):
            many = 1 + turn % 3
            points, at = random_set(chance, many), chance.randrange(many)
            number = chance.choice([0, 1, 2, 5, 11])
            fixed, some, every = fixed_points(points, at, number), some_points(points, at), every_points(points, at)
            self.assertEqual([fixed.many(), some.many(), every.many()], [many - 1] * 3)
            for rest in cube(many - 1, 8):
                inside = [rest[:at] + [count] + rest[at:] in points for count in range(12)]
                self.assertIs(rest in fixed, inside[number])
                self.assertIs(rest in some, any(inside))
                self.assertIs(rest in every, all(inside))

    def test_great_numbers_put_back(self):
        odd = points_leaving(2, 1, 1, 2)
        self.assertEqual(fixed_points(odd, 1, GREATEST), all_points(1))
        self.assertEqual(fixed_points(odd, 1, BIG), no_points(1))
        self.assertEqual(fixed_points(odd, 0, BIG), points_leaving(1, 0, 1, 2))

    def test_no_unknown_to_leave_out(self):
        for function, rest in [(fixed_points, [0]), (some_points, []), (every_points, [])]:
            for at in [0, 1, -1, None]:
                error = raised(lambda: function(all_points(0), at, *rest))
                self.assertEqual((type(error), error.value), (InvalidNumber, at))
            error = raised(lambda: function(all_points(2), 2, *rest))
            self.assertEqual((type(error), error.value), (InvalidNumber, 2))


class Led(unittest.TestCase):
    def test_led_points(self):
        chance = random.Random(201)
        for turn in range(300):
            unknown, many = turn % 4, (turn // 4) % 4
            points = random_set(chance, unknown)
            forms = [tuple(chance.randint(0, 3) for _ in range(many + 1)) for _ in range(unknown)]
            try:
                led = led_points(points, many, forms)
            except TooMany as error:
                self.assertGreater(error.value, 600)
                continue
            self.assertEqual(led.many(), many)
            for point in cube(many, 6 if many < 3 else 4):
                self.assertIs(point in led, [plain_value(form, point) for form in forms] in points)
            self.assertTrue(refines(led_grid(points, many, forms), led.grid()))

    def test_led_grid(self):
        points = PointSet(Grid([(5, 6), (3, 4)]), [[5, 3], [4, 2]])
        self.assertEqual(points.grid().limits(), [(5, 6), (3, 4)])
        for many, forms, wanted in [
                (2, [(0, 1, 0), (0, 0, 1)], [(5, 6), (3, 4)]), (1, [(0, 1), (0, 1)], [(5, 12)]),
                (1, [(2, 2), (0, 2)], [(2, 3 * 2)]), (1, [(0, 4), (3, 0)], [(2, 3)]), (1, [(7, 5), (9, 3)], [(0, 12)]),
                (0, [(7,), (9,)], []), (3, [(7, 0, 0, 0), (0, 0, 2, 3)], [(0, 1), (2, 2), (1, 4)]),
                (1, [(BIG, GREATEST), (0, 0)], [(0, 2)]), (2, [(0, 6, 1), (0, 0, 4)], [(1, 1), (5, 6)])]:
            self.assertEqual(led_grid(points, many, forms).limits(), wanted, forms)

    def test_led_points_consist_of_classes_of_the_led_grid(self):
        chance = random.Random(202)
        for turn in range(100):
            many = 1 + turn % 2
            points = random_set(chance, 2)
            forms = [tuple(chance.randint(0, 4) for _ in range(many + 1)) for _ in range(2)]
            grid = raised_or(lambda: led_grid(points, many, forms))
            for point in cube(many, 12) if grid is not None else []:
                home = class_of(grid, point)
                self.assertIs([plain_value(form, point) for form in forms] in points,
                              [plain_value(form, home) for form in forms] in points)

    def test_too_many_classes(self):
        points = points_leaving(2, 0, 0, 24) & points_from(2, 1, 24)
        for many, forms, wanted in [(2, [(0, 1, 0), (0, 0, 1)], 600), (2, [(0, 1, 0), (0, 1, 1)], 48 * 25),
                                    (1, [(0, 1), (0, 1)], 48), (3, [(0, 1, 0, 1), (0, 0, 1, 0)], 24 * 25 * 24)]:
            for function in [led_points, led_grid]:
                error = raised(lambda: function(points, many, forms))
                if wanted > 600:
                    self.assertEqual((type(error), error.value), (TooMany, wanted))
                else:
                    self.assertIsNone(error)

    def test_forms_for_each_number_of_unknowns(self):
        for unknown in range(1, 4):
            for many in range(1, 4):
                for bad in no_forms(many, unknown):
                    for function in [led_points, led_grid]:
                        error = raised(lambda: function(all_points(unknown), many, bad))
                        self.assertIs(type(error), InvalidList)
                        self.assertIs(error.value, bad)
        self.assertEqual([led_points(all_points(0), 2, []), led_points(no_points(0), 2, [])],
                         [all_points(2), no_points(2)])

    def test_at_the_limits(self):
        chance = random.Random(203)
        grid = Grid([(4, 4), (4, 4), (4, 5)])
        points = PointSet(grid, [point for point in classes(grid) if chance.random() < 0.5])
        same = [(0, 1, 0, 0), (0, 0, 1, 0), (0, 0, 0, 1)]
        for call in [lambda: led_points(points, 3, same), lambda: some_points(points, 1), lambda: every_points(points, 2),
                     lambda: fixed_points(points, 0, GREATEST), lambda: first_point(points),
                     lambda: led_points(points, 3, [(GREATEST, BIG, 1, 1)] * 3)]:
            self.assertLess(seconds(call), SECONDS)


def raised_or(call):
    """Return what a call returns, None if there are too many classes."""
    try:
        return call()
    except TooMany:
        return None


if __name__ == "__main__":
    unittest.main()
