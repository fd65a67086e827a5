"""What is told for places, gathered for all points, and lengths, points [45] to [47]."""

import math
import random
import unittest

from helpers import (AUTOMATON, BIG, GRID, MAKER, SECONDS, cube, lists_within, raised, random_automaton, random_maker,
                     random_pieces, random_set, seconds, spoil)
from openloops.automata import Automaton, accepts
from openloops.compiled import compiled, program_of
from openloops.errors import InvalidList, InvalidWord, TooLong, TooMany
from openloops.gathering import accepted_table, gathered_grid, gathered_points, gathered_table, made_of_table
from openloops.grids import Grid, class_of, classes, place_in_class
from openloops.lengths import length_points, letter_points
from openloops.makers import Maker, made_word
from openloops.pointsets import PointSet, all_points, no_points, one_point, points_from, points_leaving
from openloops.programs import Program
from openloops.running import run
from openloops.tables import CaseTable
from openloops.tableviews import table_of, table_written
from openloops.texts import OpenText

FINDS = Automaton("ab", [[1, 0, 0], [1, 2, 0], [1, 3, 0], [3, 3, 3]], ends=[3])
MOST = [0, 14, 6, 4]


def random_grid(chance, many, most):
    return Grid([(chance.randint(0, most), chance.randint(1, most)) for _ in range(many)])


def random_table(chance, many, most=2, longest=2):
    grid = random_grid(chance, many, most)
    texts = [OpenText(many, random_pieces(chance, many, chance.randint(0, 2), longest=longest)) for _ in classes(grid)]
    return CaseTable(grid, texts)


def number_of(grid, point):
    return classes(grid).index(class_of(grid, point))


class GatheredGrid(unittest.TestCase):
    def test_it_has_the_limits_that_are_told(self):
        for seed in range(100):
            chance = random.Random(seed)
            many = chance.randint(0, 3)
            grid = random_grid(chance, many, 2)
            inner = [random_grid(chance, many, 2) for _ in classes(grid)]
            limits = []
            for at, (threshold, period) in enumerate(grid.limits()):
                going = [finer.limits()[at] for finer, point in zip(inner, classes(grid)) if point[at] >= threshold]
                limits.append((threshold + period * max(limit[0] for limit in going),
                               period * math.lcm(*[limit[1] for limit in going])))
            number = math.prod(sum(limit) for limit in limits)
            error = raised(lambda: gathered_grid(grid, inner))
            if number > 600:
                self.assertIsInstance(error, TooMany)
                self.assertEqual(error.value, number)
            else:
                self.assertEqual(gathered_grid(grid, inner).limits(), limits)

    def test_places_lie_in_one_class(self):
        for seed in range(60):
            chance = random.Random(seed)
            many = chance.randint(0, 2)
            grid = random_grid(chance, many, 2)
            inner = [random_grid(chance, many, 2) for _ in classes(grid)]
            if raised(lambda: gathered_grid(grid, inner)) is None:
                finer = gathered_grid(grid, inner)
                for point in cube(many, [0, 40, 12][many]):
                    least = class_of(finer, point)
                    self.assertEqual(class_of(grid, point), class_of(grid, least))
                    small = inner[number_of(grid, point)]
                    self.assertEqual(class_of(small, place_in_class(grid, point)),
                                     class_of(small, place_in_class(grid, least)))

    def test_classes_that_do_not_go_on_count_for_nothing(self):
        inner = [Grid([(500, 7)]), Grid([(0, 1)]), Grid([(1, 3)])]
        self.assertEqual(gathered_grid(GRID, inner).limits(), [(3, 6)])
        grid = Grid([(1, 1), (1, 1)])
        inner = [Grid([(9, 9), (9, 9)]), Grid([(9, 9), (1, 2)]), Grid([(2, 3), (9, 9)]), Grid([(1, 1), (3, 1)])]
        self.assertEqual(gathered_grid(grid, inner).limits(), [(3, 3), (4, 2)])
        self.assertEqual(gathered_grid(Grid([]), [Grid([])]).limits(), [])

    def test_600_classes_and_601(self):
        self.assertEqual(gathered_grid(Grid([(0, 1)]), [Grid([(599, 1)])]).limits(), [(599, 1)])
        self.assertEqual(raised(lambda: gathered_grid(Grid([(0, 1)]), [Grid([(300, 300)])])), None)
        error = raised(lambda: gathered_grid(Grid([(1, 1)]), [Grid([(0, 1)]), Grid([(599, 1)])]))
        self.assertIsInstance(error, TooMany)
        self.assertEqual(error.value, 601)
        points = [all_points(1), points_from(1, 0, 599)]
        self.assertEqual(raised(lambda: gathered_points(Grid([(1, 1)]), points)).value, 601)
        table = table_of(OpenText(1, []))
        far = CaseTable(Grid([(300, 1)]), [OpenText(1, [])] * 300 + [OpenText(1, [("a", (1, 0))])])
        self.assertIsNone(raised(lambda: gathered_table(Grid([(299, 1)]), [table] * 299 + [far])))
        self.assertEqual(raised(lambda: gathered_table(Grid([(300, 1)]), [table] * 300 + [far])).value, 601)


class GatheredPoints(unittest.TestCase):
    def test_a_point_belongs_to_it_if_its_place_belongs_to_the_set_of_its_class(self):
        for seed in range(80):
            chance = random.Random(seed)
            many = chance.randint(0, 3)
            grid = random_grid(chance, many, [0, 3, 2, 1][many] or 1)
            sets = [random_set(chance, many) for _ in classes(grid)]
            if raised(lambda: gathered_points(grid, sets)) is None:
                points = gathered_points(grid, sets)
                for point in cube(many, [0, 60, 10, 5][many]):
                    belongs = place_in_class(grid, point) in sets[number_of(grid, point)]
                    self.assertEqual(point in points, belongs)

    def test_edges(self):
        self.assertEqual(gathered_points(Grid([]), [one_point([])]), one_point([]))
        self.assertEqual(gathered_points(Grid([]), [no_points(0)]), no_points(0))
        self.assertEqual(gathered_points(GRID, [all_points(1)] * 3), all_points(1))
        self.assertEqual(gathered_points(GRID, [no_points(1), one_point([1]), no_points(1)]), one_point([3]))
        self.assertEqual(gathered_points(Grid([(0, 2)]), [all_points(1), all_points(1)]), PointSet(GRID, [[0], [1], [2]]))
        # Of a class that stands alone only the place 0 counts.
        self.assertEqual(gathered_points(GRID, [points_from(1, 0, 1), no_points(1), no_points(1)]), no_points(1))

    def test_the_set_is_kept_with_its_least_grid(self):
        points = gathered_points(Grid([(0, 2)]), [points_leaving(1, 0, 0, 2), no_points(1)])
        self.assertEqual([points.grid().limits(), points.classes()], [[(0, 4)], [[0]]])


class GatheredTable(unittest.TestCase):
    def test_it_writes_what_the_table_of_the_class_writes_at_the_place(self):
        found = 0
        for seed in range(120):
            chance = random.Random(seed)
            many = chance.randint(0, 3)
            grid = random_grid(chance, many, 2 if many < 3 else 1)
            tables = [random_table(chance, many, 2 if many < 2 else 1) for _ in classes(grid)]
            error = raised(lambda: gathered_table(grid, tables))
            if error is None:
                found += 1
                table = gathered_table(grid, tables)
                for point in cube(many, [0, 20, 6, 4][many]):
                    word = table_written(tables[number_of(grid, point)], place_in_class(grid, point))
                    self.assertEqual(table_written(table, point), word)
            else:
                self.assertIsInstance(error, TooMany)
        self.assertGreater(found, 60)

    def test_no_unknowns(self):
        table = table_of(OpenText(0, [("ab", (3,))]))
        self.assertEqual(gathered_table(Grid([]), [table]), table)

    def test_errors_as_for_the_table(self):
        plain = table_of(OpenText(2, []))
        far = CaseTable(Grid([(19, 1), (0, 1)]), [OpenText(2, [("a", (1, 0, 0))])] * 19 + [OpenText(2, [])])
        self.assertIsNone(raised(lambda: gathered_table(Grid([(0, 1), (0, 11)]), [far] + [plain] * 10)))
        # The gathered grid has 20 times 25 classes, but 20 times 44 with the same threshold for both unknowns.
        error = raised(lambda: gathered_table(Grid([(0, 1), (0, 25)]), [far] + [plain] * 24))
        self.assertIsInstance(error, TooMany)
        self.assertEqual(error.value, 880)

    def test_too_long_texts(self):
        long = table_of(OpenText(1, [("a" * 600, (0, 1))]))
        far = CaseTable(Grid([(4, 1)]), [OpenText(1, [])] * 4 + [OpenText(1, [("b", (0, 1))])])
        table = gathered_table(Grid([(1, 1)]), [far, long])
        self.assertEqual(table_written(table, [2]), "a" * 600)
        error = raised(lambda: gathered_table(Grid([(0, 2)]), [far, long]))
        self.assertIsInstance(error, TooLong)
        # At the class 9 the place is 4, which makes 2400 letters, and one more for the power of "a".
        self.assertEqual(error.value, 2401)

    def test_lists_that_do_not_fit(self):
        table = table_of(OpenText(1, []))
        for bad in [[table] * 2, [table] * 4, (table,) * 3, [table, table, all_points(1)], [table, table, GRID]]:
            error = raised(lambda: gathered_table(GRID, bad))
            self.assertIsInstance(error, InvalidList)
            self.assertIs(error.value, bad)

    def test_lists_may_be_changed_afterwards(self):
        sets = [all_points(1)] * 3
        points = gathered_points(GRID, sets)
        spoil(sets)
        self.assertEqual(points, all_points(1))
        self.assertEqual(lists_within(points.classes())[1:], [[0]])


class Machines(unittest.TestCase):
    def test_accepted_and_made_are_what_the_written_words_give(self):
        accepted, made = 0, 0
        for seed in range(150):
            chance = random.Random(seed)
            many = chance.randint(0, 3)
            table = random_table(chance, many, 2 if many < 3 else 1)
            automaton, maker = random_automaton(chance, 3), random_maker(chance, 3)
            if raised(lambda: accepted_table(table, automaton)) is None:
                points, accepted = accepted_table(table, automaton), accepted + 1
                for point in cube(many, MOST[many]):
                    self.assertEqual(point in points, accepts(automaton, table_written(table, point)))
            if raised(lambda: made_of_table(table, maker)) is None:
                other, made = made_of_table(table, maker), made + 1
                for point in cube(many, MOST[many]):
                    self.assertEqual(table_written(other, point), made_word(maker, table_written(table, point)))
        self.assertGreater(min(accepted, made), 50)

    def test_one_and_twelve_states(self):
        table = table_of(OpenText(1, [("a", (0, 1)), ("b", (1, 0))]))
        circle = Automaton("a", [[(at + 1) % 12, at] for at in range(12)], ends=[5])
        self.assertEqual(accepted_table(table, circle), points_leaving(1, 0, 5, 12))
        self.assertEqual(accepted_table(table, Automaton("", [[0]], ends=[])), no_points(1))
        maker = Maker("a", [[((at + 1) % 12, "x" if at == 11 else "", False), (at, "", True)] for at in range(12)],
                      closing=[""] * 12)
        made = made_of_table(table, maker)
        self.assertEqual([table_written(made, [count]) for count in [11, 12, 25]], ["b", "xb", "xxb"])
        same = Maker("", [[(0, "", True)]], closing=[""])
        self.assertEqual(made_of_table(table, same), table)

    def test_errors_of_the_texts_in_order_and_then_for_all(self):
        texts = [OpenText(1, [("a", (0, 1))]), OpenText(1, [("b", (0, 1))])]
        table = CaseTable(Grid([(0, 2)]), texts)
        long = Maker("ab", [[(0, "x" * 2000, True), (0, "x" * 1999, True), (0, "", True)]], closing=["zz"])
        error = raised(lambda: made_of_table(table, long))
        self.assertIsInstance(error, TooLong)
        self.assertEqual(error.value, 2003)
        far = CaseTable(Grid([(599, 1)]), [OpenText(1, [])] * 599 + [OpenText(1, [("a", (0, 1))])])
        self.assertIsNone(raised(lambda: accepted_table(far, FINDS)))
        error = raised(lambda: accepted_table(far, AUTOMATON))
        self.assertIsInstance(error, TooMany)
        self.assertEqual(error.value, 601)

    def test_a_program_again(self):
        halves = Program([("main", 1, [("times", ((0, 1), 0, 2), [("write", "aa")]), ("write", "ba")])])
        made = program_of(made_of_table(compiled(halves, "main"), MAKER))
        for count in range(9):
            self.assertEqual(run(made, "main", [count]), made_word(MAKER, run(halves, "main", [count])))


class Lengths(unittest.TestCase):
    def test_sets_have_the_points_at_which_so_many_letters_are_written(self):
        found = 0
        for seed in range(150):
            chance = random.Random(seed)
            many = chance.randint(0, 3)
            table, numbers = random_table(chance, many, 2 if many < 3 else 1), random_set(chance, 1)
            if raised(lambda: length_points(table, numbers)) is None:
                points, found = length_points(table, numbers), found + 1
                for point in cube(many, MOST[many]):
                    self.assertEqual(point in points, [len(table_written(table, point))] in numbers)
            if raised(lambda: letter_points(table, "b", numbers)) is None:
                points = letter_points(table, "b", numbers)
                for point in cube(many, MOST[many]):
                    self.assertEqual(point in points, [table_written(table, point).count("b")] in numbers)
        self.assertGreater(found, 60)

    def test_great_lengths(self):
        table = table_of(OpenText(1, [("ab", (0, BIG))]))
        self.assertEqual(length_points(table, points_from(1, 0, 500)), points_from(1, 0, 1))
        self.assertEqual(letter_points(table, "a", points_leaving(1, 0, 0, 600)),
                         points_leaving(1, 0, 0, 600 // math.gcd(BIG, 600)))

    def test_errors(self):
        table = table_of(OpenText(1, [("a", (0, 1))]))
        self.assertEqual(raised(lambda: letter_points(table, "ab", None)).value, "ab")
        self.assertIsInstance(raised(lambda: letter_points(table, "", None)), InvalidWord)
        self.assertEqual(length_points(table, points_from(1, 0, 599)), points_from(1, 0, 599))
        table = table_of(OpenText(2, [("a", (0, 1, 1))]))
        error = raised(lambda: length_points(table, points_from(1, 0, 24)))
        self.assertIsInstance(error, TooMany)
        self.assertEqual(error.value, 625)

    def test_limits(self):
        texts = [OpenText(1, [("a" * (1 + at % 40), (at, 1 + at % 7))]) for at in range(45)]
        wide = CaseTable(Grid([(0, 45)]), texts)
        alone = CaseTable(Grid([(599, 1)]), [OpenText(1, [("ab", (at, 0))]) for at in range(600)])
        circle = Automaton("a", [[(at + 1) % 12, at] for at in range(12)], ends=[5])
        for table in [wide, alone]:
            for call in [lambda: length_points(table, points_leaving(1, 0, 1, 12)),
                         lambda: letter_points(table, "a", points_leaving(1, 0, 1, 12)),
                         lambda: accepted_table(table, circle), lambda: made_of_table(table, MAKER)]:
                self.assertLess(seconds(lambda: raised(call)), SECONDS)


if __name__ == "__main__":
    unittest.main()
