"""Point [31]: that the grid of a table is the one that is told there, looked for plainly among all grids that serve."""

import random
import unittest

from helpers import random_pieces, raised
from openloops.errors import TooLong
from openloops.grids import Grid, class_of, classes, led_forms
from openloops.shifts import earlier, thinned
from openloops.tables import CaseTable
from openloops.texts import OpenText, joined, replaced
from test_tables import ONE, OTHER, random_cases, refined


def text_for_class(limits, row, even, rows):
    """Return the open text that writes what a table writes in a class of the grid with some limits, None if there is none.

    The table is given by a grid with higher thresholds and multiples of the periods, and its texts there.
    """
    far, steps = [], []
    for (low, period), (top, _), count in zip(limits, even.limits(), row):
        step = 0
        while low <= count and count + step * period < top:
            step += 1
        far.append(count + step * period)
        steps.append(step)
    text = rows[tuple(class_of(even, far))]
    for at, ((low, period), (_, wide), step) in enumerate(zip(limits, even.limits(), steps)):
        if row[at] >= low:
            text = thinned(text, at, wide // period)
            for _ in range(step):
                text = text and earlier(text, at)
        if text is None:
            return None
    grid = Grid(limits)
    for point in classes(even):
        if class_of(grid, point) == row and replaced(text, grid.many(), led_forms(even, point, grid)) != rows[tuple(point)]:
            return None
    return text


def grid_serves(limits, even, rows):
    """Tell whether each class of the grid with some limits has an open text."""
    return all(text_for_class(limits, row, even, rows) is not None for row in classes(Grid(limits)))


def divisors(number):
    return [step for step in range(1, number + 1) if number % step == 0]


def told_limits(grid, texts):
    """Return the limits that are told, from which grids serve."""
    top = max([low for low, _ in grid.limits()], default=0)
    even, led = refined(grid, texts, [(top, period) for _, period in grid.limits()])
    rows = {tuple(point): text for point, text in zip(classes(even), led)}
    many, periods = grid.many(), []
    for at in range(many):
        fitting = [step for step in divisors(even.limits()[at][1])
                   if grid_serves(even.limits()[:at] + [(top, step)] + even.limits()[at + 1:], even, rows)]
        assert all(step % fitting[0] == 0 for step in fitting)
        periods.append(fitting[0])

    def served(lows):
        return grid_serves(list(zip(lows, periods)), even, rows)

    assert served([top] * many)
    lows = [next(low for low in range(top + 1) if served([low] * many))] * many
    for at in range(many):
        lows[at] = next(low for low in range(top + 1) if served(lows[:at] + [low] + lows[at + 1:]))
    return list(zip(lows, periods))


def exchanged(cases, order):
    """Return cases with their unknowns in another order."""
    grid, texts = cases
    rows = {tuple(point): text for point, text in zip(classes(grid), texts)}
    other = Grid([grid.limits()[at] for at in order])
    led = []
    for point in classes(other):
        text = rows[tuple(point[order.index(at)] for at in range(len(order)))]
        led.append(OpenText(len(order), [(word, form[:1] + tuple(form[1 + at] for at in order)) for word, form in text.pieces()]))
    return other, led


def widened(cases, at, period):
    """Return cases with one more unknown, for which nothing changes but what is written at the end."""
    grid, texts = cases
    limits = grid.limits()[:at] + [(0, period)] + grid.limits()[at:]
    rows = {tuple(point): text for point, text in zip(classes(grid), texts)}
    led = []
    for point in classes(Grid(limits)):
        pieces = [(word, form[:at + 1] + (0,) + form[at + 1:]) for word, form in rows[tuple(point[:at] + point[at + 1:])].pieces()]
        led.append(OpenText(grid.many() + 1, pieces + [("d", (point[at],) + (0,) * (grid.many() + 1))]))
    return Grid(limits), led


class Told(unittest.TestCase):
    def check(self, grid, texts):
        wanted = told_limits(grid, texts)
        self.assertEqual(CaseTable(grid, texts).grid().limits(), wanted)
        return wanted

    def test_the_example_and_what_is_made_of_it(self):
        chance = random.Random(310)
        for cases in [ONE, OTHER]:
            for order in [[0, 1], [1, 0]]:
                self.assertEqual(self.check(*exchanged(cases, order)), [(0, 1), (1, 1)])
            for at in range(3):
                for period in [1, 2]:
                    grid, texts = widened(cases, at, period)
                    wanted = [(0, 1), (1, 1)]
                    self.assertEqual(self.check(grid, texts), wanted[:at] + [(0, period)] + wanted[at:])
            for _ in range(6):
                limits = [(low + chance.randint(0, 2), period * chance.randint(1, 2)) for low, period in cases[0].limits()]
                grid, texts = refined(*cases, limits)
                self.assertEqual(self.check(grid, texts), [(0, 1), (1, 1)])
                tail = OpenText(2, random_pieces(chance, 2, 1, longest=2, most=1))
                self.check(grid, [joined(text, replaced(tail, 2, led_forms(grid, point, Grid([(0, 1)] * 2))))
                                  for point, text in zip(classes(grid), texts)])

    def test_random_tables(self):
        chance, found = random.Random(3100), []
        for turn in range(240):
            many = turn % 4
            grid, texts = random_cases(chance, many, [1, 3, 2, 2][many] if turn % 8 < 4 else 1)
            if isinstance(raised(lambda: CaseTable(grid, texts)), TooLong):
                continue
            found.append(tuple(self.check(grid, texts)))
            if many == 2:
                self.check(*exchanged((grid, texts), [1, 0]))
        self.assertGreater(len(set(found)), 25)

    def test_whole_tables_seen_finely(self):
        chance = random.Random(3101)
        for turn in range(60):
            many = 1 + turn % 3
            grid, texts = random_cases(chance, many, 1)
            finer, led = refined(grid, texts, [(low + chance.randint(0, 1), period * chance.randint(1, 2)) for low, period in grid.limits()])
            self.assertEqual(self.check(finer, led), self.check(grid, texts))


if __name__ == "__main__":
    unittest.main()
