"""Points [16] and [17]: grids."""

import itertools
import random
import unittest

from helpers import BIG, GREATEST, NO_GRID, SECONDS, cube, no_point, plain_value, raised, seconds
from openloops.errors import InvalidGrid, InvalidList, InvalidPoint, TooMany, Unlike
from openloops.grids import (Grid, class_forms, class_of, classes, each_class, led_forms, meeting, place_in_class,
                             refines, within)


def random_grid(chance, many, threshold=3, period=4):
    return Grid([(chance.randint(0, threshold), chance.randint(1, period)) for _ in range(many)])


def go_together(limit, one, other):
    """Tell whether two counts are equal or go together, as the document says it."""
    threshold, period = limit
    return one == other or min(one, other) >= threshold and (one - other) % period == 0


def in_one_class(grid, one, other):
    return all(go_together(limit, count, mate) for limit, count, mate in zip(grid.limits(), one, other))


def plain_classes(grid, most):
    """Return the least point of each class that has a point in a cube."""
    found = []
    for point in cube(grid.many(), most):
        if not any(in_one_class(grid, point, other) for other in found):
            found.append(point)
    return found


class Grids(unittest.TestCase):
    def test_examples(self):
        grid, finer = Grid([(1, 2)]), Grid([(2, 4)])
        self.assertEqual([classes(grid), class_of(grid, [10 ** 20]), place_in_class(grid, [6]), class_forms(grid, [6]),
                          class_forms(grid, [0])], [[[0], [1], [2]], [2], [2], [(2, 2)], [(0, 0)]])
        self.assertEqual([refines(finer, grid), refines(grid, finer), within(grid, [2], finer),
                          led_forms(finer, [4], grid), led_forms(finer, [1], grid)],
                         [True, False, [[2], [4]], [(1, 2)], [(0, 0)]])
        self.assertEqual([meeting(Grid([(0, 4), (3, 1)]), Grid([(2, 6), (0, 1)])).limits(),
                          [point for point in each_class(Grid([]))]], [[(2, 12), (3, 1)], [[]]])

    def test_many_limits_and_equal(self):
        limits = [(1, 2), (0, 1), (3, 3)]
        grid = Grid(limits)
        limits.append((0, 1))
        grid.limits().clear()
        self.assertEqual((grid.many(), grid.limits()), (3, [(1, 2), (0, 1), (3, 3)]))
        self.assertEqual([grid == Grid(limits[:3]), grid == Grid(limits[:2]), Grid([(1, 2)]) == Grid([(1, 4)]),
                          Grid([(1, 2)]) == Grid([(2, 2)]), Grid([]) == Grid([])], [True, False, False, False, True])

    def test_how_many_classes(self):
        for limits, wanted in [([(599, 1)], 600), ([(0, 600)], 600), ([(600, 1)], 601), ([(0, 601)], 601),
                               ([(10, 10), (1, 29)], 600), ([(10, 10), (2, 29)], 620), ([(5, 5), (5, 5), (2, 4)], 600),
                               ([(5, 5), (5, 5), (3, 4)], 700), ([(BIG, 1), (0, BIG)], (BIG + 1) * BIG),
                               ([(GREATEST, GREATEST)], 2 * GREATEST), ([], 1), ([(0, 1)] * 3, 1)]:
            error = raised(lambda: Grid(limits))
            if wanted > 600:
                self.assertEqual((type(error), error.value), (TooMany, wanted))
            else:
                self.assertEqual(len(classes(Grid(limits))), wanted)

    def test_a_wrong_list_is_wrong_however_many_classes(self):
        limits = [(BIG, 1), (0, 0)]
        self.assertIs(raised(lambda: Grid(limits)).value, limits)
        self.assertIs(type(raised(lambda: Grid([(BIG, 1)] * 4))), InvalidList)

    def test_classes_are_the_least_points_in_order(self):
        chance = random.Random(16)
        for turn in range(60):
            grid = random_grid(chance, turn % 4, 2, 3)
            self.assertEqual(classes(grid), plain_classes(grid, 5))
            self.assertEqual(list(each_class(grid)), classes(grid))

    def test_each_class_yields_lists_of_its_own(self):
        grid = Grid([(1, 2), (0, 2)])
        found = []
        for point in each_class(grid):
            found.append(list(point))
            point.append(9)
        self.assertEqual(found, classes(grid))

    def test_each_class_raises_when_the_loop_begins(self):
        for bad in NO_GRID:
            generator = each_class(bad)
            error = raised(lambda: next(generator))
            self.assertIs(type(error), InvalidGrid)
            self.assertIs(error.value, bad)

    def test_class_place_and_forms(self):
        chance = random.Random(160)
        for turn in range(100):
            many = turn % 4
            grid = random_grid(chance, many)
            for point in [[chance.choice([0, 1, 2, 3, 5, 8, BIG, GREATEST]) for _ in range(many)] for _ in range(10)]:
                home, place, forms = class_of(grid, point), place_in_class(grid, point), class_forms(grid, point)
                self.assertIn(home, classes(grid))
                self.assertTrue(in_one_class(grid, home, point))
                self.assertEqual([plain_value(form, place) for form in forms], point)
                for at, (threshold, period) in enumerate(grid.limits()):
                    step = period if home[at] >= threshold else 0
                    unit = [step if number == at else 0 for number in range(many)]
                    self.assertEqual(forms[at], (home[at], *unit))
                    self.assertEqual(place[at], (point[at] - home[at]) // period)

    def test_points_for_each_number_of_unknowns(self):
        for many in range(1, 4):
            grid = Grid([(1, 2)] * many)
            for bad in no_point(many):
                for function, rest in [(class_of, []), (place_in_class, []), (class_forms, []), (within, [None]),
                                       (led_forms, [None])]:
                    error = raised(lambda: function(grid, bad, *rest))
                    self.assertIs(type(error), InvalidPoint)
                    self.assertIs(error.value, bad)
        self.assertEqual([class_of(Grid([]), []), place_in_class(Grid([]), []), class_forms(Grid([]), [])], [[], [], []])


class TwoGrids(unittest.TestCase):
    def test_refines_is_what_the_classes_say(self):
        chance = random.Random(17)
        seen = {True: 0, False: 0}
        for turn in range(400):
            many = turn % 3
            one, other = random_grid(chance, many, 2, 4), random_grid(chance, many, 2, 2)
            points = cube(many, 9 if many == 2 else 14)
            homes = {}
            for point in points:
                homes.setdefault(tuple(class_of(one, point)), []).append(class_of(other, point))
            wanted = all(home == found[0] for found in homes.values() for home in found)
            seen[wanted] += 1
            self.assertIs(refines(one, other), wanted, (one.limits(), other.limits()))
        self.assertGreater(min(seen.values()), 50)

    def test_meeting_has_the_fewest_classes(self):
        chance = random.Random(170)
        for turn in range(100):
            many = turn % 3
            one, other = random_grid(chance, many, 2, 3), random_grid(chance, many, 2, 4)
            found = meeting(one, other)
            self.assertTrue(refines(found, one) and refines(found, other))
            for limits in itertools.product(itertools.product(range(4), [1, 2, 3, 4, 6, 8, 12]), repeat=many):
                grid = raised_or_grid(list(limits))
                if grid is not None and refines(grid, one) and refines(grid, other):
                    self.assertLessEqual(len(classes(found)), len(classes(grid)))
                    self.assertTrue(refines(grid, found))

    def test_meeting_with_too_many_classes(self):
        self.assertEqual(len(classes(meeting(Grid([(0, 24)]), Grid([(0, 25)])))), 600)
        for one, other, wanted in [([(0, 24)], [(1, 25)], 601), ([(0, 599)], [(0, 598)], 599 * 598),
                                   ([(299, 1), (0, 1)], [(0, 1), (0, 3)], 900), ([(599, 1)], [(0, 600)], 1199)]:
            error = raised(lambda: meeting(Grid(one), Grid(other)))
            self.assertEqual((type(error), error.value), (TooMany, wanted))

    def test_unlike(self):
        one, other = Grid([(1, 2)]), Grid([(2, 4), (0, 1)])
        for function in [refines, meeting]:
            error = raised(lambda: function(one, other))
            self.assertIs(type(error), Unlike)
            self.assertIs(error.value, other)
        coarse, finer = Grid([(1, 2)]), Grid([(2, 4)])
        for call, thing in [(lambda: within(coarse, [0], other), other), (lambda: within(finer, [0], coarse), coarse),
                            (lambda: led_forms(one, [0], other), other), (lambda: led_forms(coarse, [0], finer), finer)]:
            error = raised(call)
            self.assertIs(type(error), Unlike)
            self.assertIs(error.value, thing)

    def test_within_and_led_forms(self):
        chance = random.Random(171)
        for turn in range(150):
            many = turn % 4
            grid = random_grid(chance, many, 2, 2)
            finer = Grid([(threshold + chance.randint(0, 2), period * chance.randint(1, 2))
                          for threshold, period in grid.limits()])
            for point in [[chance.randint(0, 9) for _ in range(many)] for _ in range(5)]:
                wanted = [small for small in classes(finer) if in_one_class(grid, small, point)]
                self.assertEqual(within(grid, point, finer), wanted)
                forms = led_forms(finer, point, grid)
                home = class_of(finer, point)
                for turns in cube(many, 2):
                    place = [number if count >= threshold else 0
                             for number, count, (threshold, _) in zip(turns, home, finer.limits())]
                    there = [plain_value(form, place) for form in class_forms(finer, point)]
                    self.assertEqual([plain_value(form, place) for form in forms], place_in_class(grid, there))
                for number, (count, (threshold, _)) in enumerate(zip(home, finer.limits())):
                    if count < threshold:
                        self.assertTrue(all(form[number + 1] == 0 for form in forms))

    def test_at_the_limits(self):
        one, other = Grid([(300, 300)]), Grid([(0, 1)])
        three = Grid([(4, 4), (4, 4), (5, 4)])
        for call in [lambda: classes(three), lambda: within(other, [BIG], one), lambda: led_forms(one, [GREATEST], other),
                     lambda: meeting(one, one), lambda: [class_of(three, point) for point in each_class(three)]]:
            self.assertLess(seconds(call), SECONDS)


def raised_or_grid(limits):
    """Return the grid with certain limits, None if it has too many classes."""
    try:
        return Grid(limits)
    except TooMany:
        return None


if __name__ == "__main__":
    unittest.main()
