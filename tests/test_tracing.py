"""Ways of letters, point [53]."""

import random
import unittest

from helpers import BIG, GREATEST, SECONDS, cube, raised, seconds
from openloops.errors import InvalidNumber, InvalidPlace, InvalidWay
from openloops.programs import Program
from openloops.running import run_length
from openloops.tracing import number_of_way, way_to, written_by
from walking import M, N, Trace, all_places, random_program

FIRST = ((0, 1, 0), 0, 1)


def cases(how_many):
    """Yield random programs with points at which little is written."""
    for seed in range(how_many):
        chance = random.Random(seed)
        program = random_program(chance, [chance.randint(0, 3) for _ in range(3)], 3)
        many = program.parts()[-1][1]
        points = [point for point in cube(many, [0, 4, 2, 1][many]) if 0 < run_length(program, "c", point) <= 120]
        for point in points[:4] + points[-2:]:
            yield program, point


def plainly_written_by(ways, place, test):
    """Return whether each letter is written by the statement at a place, told by its way."""
    name, path = place
    if not test:
        return [any(other == place for other, _ in way) for way in ways]
    return [any(other[0] == name and other[1][:len(path)] == path and len(other[1]) > len(path) for other, _ in way)
            for way in ways]


class Walks(unittest.TestCase):
    def test_the_ways_are_those_of_a_walk_and_lead_back(self):
        for program, point in cases(80):
            trace = Trace(program, "c", point)
            for at, way in enumerate(trace.ways):
                self.assertEqual(way_to(program, "c", point, at), way)
                self.assertEqual(number_of_way(program, "c", point, way), at)
            self.assertIsInstance(raised(lambda: way_to(program, "c", point, len(trace.ways))), InvalidNumber)
            if len({place[0] for way in trace.ways for place, _ in way}) == 1:
                self.assertEqual(sorted(trace.ways), trace.ways)

    def test_ways_that_are_changed_are_none_or_lead_to_another_letter(self):
        for program, point in cases(25):
            ways = Trace(program, "c", point).ways
            for at in range(0, len(ways), 7):
                way = ways[at]
                for place in range(len(way)):
                    for step in [-1, 1, BIG]:
                        other = [list(item) for item in way]
                        other[place][1] += step
                        self.check(program, point, ways, [tuple(item) for item in other])
                    self.check(program, point, ways, way[:place] + way[place + 1:])
                    self.check(program, point, ways, way[:place])
                    self.check(program, point, ways, way[:place] + [way[place]] + way[place:])
                    name, path = way[place][0]
                    for longer in [path[:-1] + (path[-1] + 1,), path + (0, 0), path + (1, 0), path[:-2], path[:-1] + (BIG,)]:
                        self.check(program, point, ways, way[:place] + [((name, longer), way[place][1])] + way[place + 1:])

    def check(self, program, point, ways, way):
        if way in ways:
            self.assertEqual(number_of_way(program, "c", point, way), ways.index(way))
        else:
            error = raised(lambda: number_of_way(program, "c", point, way))
            self.assertIsInstance(error, InvalidWay)
            self.assertIs(error.value, way)

    def test_as_many_letters_are_written_by_each_statement_as_a_walk_counts(self):
        for program, point in cases(50):
            trace = Trace(program, "c", point)
            for place, statement in all_places(program):
                told = plainly_written_by(trace.ways, place, statement[0] in ("below", "leaves"))
                for at in range(0, len(told) + 1, 1 + len(told) // 12):
                    self.assertEqual(written_by(program, "c", point, place, at), sum(told[:at]))
                self.assertEqual(written_by(program, "c", point, place, len(told)), sum(told))
                self.assertIsInstance(raised(lambda: written_by(program, "c", point, place, len(told) + 1)), InvalidNumber)


class Great(unittest.TestCase):
    def test_letters_far_out_in_loops_of_thirty_figures(self):
        inner = ("inner", 2, [("times", FIRST, [("write", "ab"), ("times", M, [("write", "c")])])])
        call = ("call", "inner", [((1, 1), 0, 1), ((0, 1), 1, 1)])
        program = Program([inner, ("main", 1, [("write", "x"), ("times", N, [call, ("write", "yz")])])])
        count = GREATEST
        each = 2 + count - 1
        turn = (count + 1) * each + 2
        self.assertEqual(run_length(program, "main", [count]), 1 + count * turn)
        number = 1 + (count - 1) * turn + count * each + 2 + count - 2
        way = [(("main", (1,)), count - 1), (("main", (1, 0, 0)), 0), (("inner", (0,)), count),
               (("inner", (0, 0, 1)), count - 2), (("inner", (0, 0, 1, 0, 0)), 0)]
        self.assertEqual(way_to(program, "main", [count], number), way)
        self.assertEqual(number_of_way(program, "main", [count], way), number)
        self.assertEqual(written_by(program, "main", [count], ("inner", (0, 0, 1, 0, 0)), number),
                         (count - 1) * (count + 1) * (count - 1) + count * (count - 1) + count - 2)
        self.assertEqual(written_by(program, "main", [count], ("main", (0,)), number), 1)
        last = 1 + count * turn - 1
        self.assertEqual(way_to(program, "main", [count], last), [(("main", (1,)), count - 1), (("main", (1, 0, 1)), 1)])
        self.assertEqual(way_to(program, "main", [count], 0), [(("main", (0,)), 0)])
        self.assertIsInstance(raised(lambda: way_to(program, "main", [count], last + 1)), InvalidNumber)

    def test_turns_at_0_and_at_the_last_time(self):
        program = Program([("main", 1, [("times", N, [("write", "ab")])])])
        for turn, number in [(0, 0), (GREATEST - 1, 2 * GREATEST - 2)]:
            way = [(("main", (0,)), turn), (("main", (0, 0, 0)), 0)]
            self.assertEqual(number_of_way(program, "main", [GREATEST], way), number)
            self.assertEqual(way_to(program, "main", [GREATEST], number), way)
        way = [(("main", (0,)), GREATEST), (("main", (0, 0, 0)), 0)]
        self.assertIsInstance(raised(lambda: number_of_way(program, "main", [GREATEST], way)), InvalidWay)

    def test_loops_that_write_nothing_or_never_run(self):
        row = [("times", ((BIG,), 0, 1), [("times", ((0,), 0, 1), [("write", "a")])]), ("write", "b"), ("times", ((2,), 0, 1), [])]
        program = Program([("main", 0, row)])
        self.assertEqual(way_to(program, "main", [], 0), [(("main", (1,)), 0)])
        self.assertEqual(written_by(program, "main", [], ("main", (0, 0, 0, 0, 0)), 1), 0)
        way = [(("main", (0,)), 0), (("main", (0, 0, 0)), 0), (("main", (0, 0, 0, 0, 0)), 0)]
        for bad in [way, way[:1], way[:2], [(("main", (2,)), 0)]]:
            self.assertIsInstance(raised(lambda: number_of_way(program, "main", [], bad)), InvalidWay)

    def test_limits(self):
        row = [("write", "a")]
        for _ in range(11):
            row = [("times", N, row + [("write", "bc")])]
        deep = Program([("main", 1, row)])
        heavy = Program([("main", 1, [("times", N, [("times", N, [("write", "ab")] * 4998)])])])
        for program in [deep, heavy]:
            number = run_length(program, "main", [GREATEST]) - 1
            way = way_to(program, "main", [GREATEST], number)
            self.assertEqual(number_of_way(program, "main", [GREATEST], way), number)
            for call in [lambda: way_to(program, "main", [GREATEST], number), lambda: number_of_way(program, "main", [GREATEST], way),
                         lambda: written_by(program, "main", [GREATEST], way[-1][0], number)]:
                self.assertLess(seconds(call), SECONDS)


class Edges(unittest.TestCase):
    def test_tests_have_no_item_of_their_own_in_a_way(self):
        row = [("below", N, 3, [("write", "a")], [("leaves", N, 0, 2, [("write", "bc")], [])])]
        program = Program([("main", 1, row)])
        self.assertEqual(way_to(program, "main", [2], 0), [(("main", (0, 0, 0)), 0)])
        self.assertEqual(way_to(program, "main", [4], 1), [(("main", (0, 1, 0, 0, 0)), 1)])
        self.assertEqual(written_by(program, "main", [4], ("main", (0,)), 2), 2)
        self.assertEqual(written_by(program, "main", [4], ("main", (0, 1, 0)), 1), 1)
        self.assertEqual(written_by(program, "main", [4], ("main", (0, 0, 0)), 2), 0)
        for bad in [[(("main", (0, 0, 0)), 0)], [(("main", (0,)), 0), (("main", (0, 1, 0, 0, 0)), 1)]]:
            self.assertIsInstance(raised(lambda: number_of_way(program, "main", [4], bad)), InvalidWay)

    def test_statements_in_parts_that_are_called_several_times(self):
        program = Program([("low", 1, [("times", N, [("write", "ab")])]), ("side", 0, [("write", "z")]),
                           ("main", 0, [("call", "low", [((2,), 0, 1)]), ("write", "c"), ("call", "low", [((3,), 0, 1)])])])
        self.assertEqual(written_by(program, "main", [], ("low", (0,)), 11), 10)
        self.assertEqual(written_by(program, "main", [], ("low", (0, 0, 0)), 6), 5)
        self.assertEqual(written_by(program, "main", [], ("main", (2,)), 6), 1)
        self.assertEqual(written_by(program, "main", [], ("side", (0,)), 11), 0)
        self.assertIsInstance(raised(lambda: written_by(program, "main", [], ("side", (1,)), BIG)), InvalidPlace)
        self.assertEqual(written_by(program, "main", [], ("low", (0,)), 0), 0)

    def test_the_place_of_another_part_does_not_lead_on(self):
        program = Program([("low", 0, [("write", "a")]), ("main", 0, [("call", "low", [])])])
        self.assertEqual(number_of_way(program, "main", [], [(("main", (0,)), 0), (("low", (0,)), 0)]), 0)
        for bad in [[(("low", (0,)), 0)], [(("main", (0,)), 0), (("main", (0,)), 0)], [(("main", (0,)), 0)]]:
            self.assertIsInstance(raised(lambda: number_of_way(program, "main", [], bad)), InvalidWay)

    def test_a_part_that_writes_nothing_has_no_way(self):
        program = Program([("main", 1, [("times", N, [])])])
        self.assertIsInstance(raised(lambda: way_to(program, "main", [5], 0)), InvalidNumber)
        self.assertEqual(written_by(program, "main", [5], ("main", (0,)), 0), 0)
        self.assertIsInstance(raised(lambda: number_of_way(program, "main", [5], [])), InvalidWay)


if __name__ == "__main__":
    unittest.main()
