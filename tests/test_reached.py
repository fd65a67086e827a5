"""What is reached, points [40] to [42]."""

import random
import unittest

from helpers import BIG, SECONDS, cube, lists_within, raised, seconds
from openloops.compiled import part_grid
from openloops.errors import InvalidPlace, InvalidPoint, TooMany, UnknownPart
from openloops.grids import class_of, classes, refines
from openloops.pointsets import all_points, no_points, one_point, other_points, points_from, points_leaving
from openloops.programs import Program
from openloops.reached import never_reached, one_way, reach_grid, reached, times_reached, trimmed
from openloops.running import run, run_length
from walking import M, N, Trace, all_places, places_of, random_program, under

FIRST = ((0, 1, 0), 0, 1)


def one_part(many, body):
    return Program([("main", many, body)])


def random_cases(how_many, depth=3):
    """Yield random programs whose last part has a small reach grid."""
    found, seed = 0, 0
    while found < how_many:
        seed += 1
        chance = random.Random(seed)
        program = random_program(chance, [chance.randint(0, 3) for _ in range(3)], depth)
        if raised(lambda: reach_grid(program, "c")) is None and len(classes(reach_grid(program, "c"))) <= 60:
            found += 1
            yield program, "c", program.parts()[-1][1]


def small_points(program, name, many, most):
    """Return small points at which a walk is not long."""
    return [point for point in cube(many, most) if run_length(program, name, point) <= 300]


def has_long_loops(program, name, point):
    """Tell whether a walk would be long though little is written."""
    return sum(times_reached(program, name, place, point) for place, _ in all_places(program)) > 3000


class Walks(unittest.TestCase):
    def test_statements_are_reached_as_often_as_a_walk_comes_to_them(self):
        for program, name, many in random_cases(80):
            for point in small_points(program, name, many, [0, 6, 3, 2][many])[:20]:
                if not has_long_loops(program, name, point):
                    visits = Trace(program, name, point).visits
                    for place, _ in all_places(program):
                        self.assertEqual(times_reached(program, name, place, point), visits.get(place, 0))

    def test_statements_are_reached_where_a_walk_comes_to_them(self):
        for program, name, many in random_cases(60):
            sets = {place: reached(program, name, place) for place, _ in all_places(program)}
            for points in sets.values():
                self.assertEqual(points.many(), many)
            for point in cube(many, [0, 9, 4, 2][many]):
                for place, points in sets.items():
                    self.assertEqual(point in points, times_reached(program, name, place, point) > 0)

    def test_a_statement_is_reached_in_whole_classes_of_the_reach_grid(self):
        for program, name, many in random_cases(60):
            grid = reach_grid(program, name)
            self.assertTrue(raised(lambda: part_grid(program, name)) is not None
                            or refines(grid, part_grid(program, name)))
            for point in cube(many, [0, 12, 6, 3][many]):
                least = class_of(grid, point)
                for place, _ in all_places(program):
                    self.assertEqual(times_reached(program, name, place, point) > 0,
                                     times_reached(program, name, place, least) > 0)

    def test_never_reached_and_one_way_name_just_what_is_so(self):
        for program, name, many in random_cases(80):
            visits, outcomes = {}, {}
            for point in classes(reach_grid(program, name)):
                if not has_long_loops(program, name, point):
                    trace = Trace(program, name, point)
                    visits.update(trace.visits)
                    for place, branches in trace.outcomes.items():
                        outcomes.setdefault(place, set()).update(branches)
                else:
                    break
            else:
                names = under(program, name)
                rows = [place for place, _ in all_places(program) if place[0] in names]
                self.assertEqual(never_reached(program, name), [place for place in rows if place not in visits])
                self.assertEqual(one_way(program, name), [(place, min(outcomes[place])) for place in rows
                                                          if len(outcomes.get(place, [])) == 1])

    def test_what_is_trimmed_writes_the_same_and_has_nothing_needless(self):
        for program, name, many in random_cases(80):
            short = trimmed(program, name)
            for point in small_points(program, name, many, [0, 8, 4, 2][many]):
                self.assertEqual(run(short, name, point), run(program, name, point))
            self.assertEqual(never_reached(short, name), [])
            self.assertEqual(one_way(short, name), [])
            self.assertEqual(trimmed(short, name), short)
            names = [part for part, _, _ in program.parts()
                     if part == name or any(statement[0] == "call" and statement[1] == part
                                            and not reached(program, name, place).empty
                                            for place, statement in all_places(program))]
            self.assertEqual([part for part, _, _ in short.parts()], names)


class Reached(unittest.TestCase):
    def test_tests_and_loops_on_the_way(self):
        body, other = [("times", M, [("write", "a")])], [("leaves", M, 1, 2, [], [("write", "b")])]
        program = one_part(2, [("below", FIRST, 3, body, other)])
        self.assertEqual(reached(program, "main", ("main", (0,))), all_points(2))
        inner = loop = ("main", (0, 0, 0))
        self.assertEqual(reached(program, "main", inner), other_points(points_from(2, 0, 3)))
        inner = ("main", (0, 0, 0, 0, 0))
        self.assertEqual(reached(program, "main", inner), points_from(2, 1, 1) - points_from(2, 0, 3))
        self.assertEqual(reached(program, "main", ("main", (0, 1, 0, 1, 0))), points_leaving(2, 1, 0, 2) & points_from(2, 0, 3))
        self.assertEqual(times_reached(program, "main", inner, [2, BIG]), BIG)
        self.assertEqual(times_reached(program, "main", inner, [3, BIG]), 0)
        self.assertEqual(times_reached(program, "main", loop, [2, BIG]), 1)

    def test_statements_that_are_not_under_the_part(self):
        parts = [("low", 0, [("write", "a")]), ("high", 1, [("times", N, [("call", "low", [])])])]
        program = Program(parts + [("side", 0, [("write", "b")])])
        self.assertEqual(reached(program, "low", ("high", (0,))), no_points(0))
        self.assertEqual(reached(program, "high", ("side", (0,))), no_points(1))
        self.assertEqual(reached(program, "high", ("low", (0,))), points_from(1, 0, 1))
        self.assertEqual(times_reached(program, "low", ("high", (0, 0, 0)), []), 0)
        self.assertEqual(never_reached(program, "high"), [])
        self.assertEqual([name for name, _, _ in trimmed(program, "high").parts()], ["low", "high"])
        self.assertEqual(trimmed(program, "low").parts(), program.parts()[:1])

    def test_calls_in_calls_and_loops_in_loops_with_great_numbers(self):
        inner = ("inner", 1, [("times", N, [("times", N, [("write", "a")])])])
        outer = ("outer", 1, [("times", N, [("call", "inner", [((0, 1), 0, 1)]), ("call", "inner", [((0, 2), 0, 1)])])])
        program = Program([inner, outer])
        count = 10 ** 30 - 1
        place = ("inner", (0, 0, 0, 0, 0))
        self.assertEqual(times_reached(program, "outer", place, [count]), count * (count ** 2 + 4 * count ** 2))
        self.assertEqual(times_reached(program, "outer", ("inner", (0,)), [count]), 2 * count)
        deep = [("write", "a")]
        for _ in range(11):
            deep = [("times", N, deep)]
        program, path = one_part(1, deep), (0,) * 23
        self.assertEqual(times_reached(program, "main", ("main", path), [BIG]), BIG ** 11)
        self.assertLess(seconds(lambda: times_reached(program, "main", ("main", path), [BIG])), SECONDS)

    def test_the_order_of_errors(self):
        program = one_part(1, [("below", N, 600, [], [])])
        self.assertIsInstance(raised(lambda: reached(program, "none", None)), UnknownPart)
        self.assertIsInstance(raised(lambda: reached(program, "main", ("main", (1,)))), InvalidPlace)
        self.assertIsInstance(raised(lambda: reached(program, "main", ("main", (0,)))), TooMany)
        self.assertIsInstance(raised(lambda: times_reached(program, "main", ("main", (1,)), None)), InvalidPlace)
        self.assertIsInstance(raised(lambda: times_reached(program, "main", ("main", (0,)), None)), InvalidPoint)
        self.assertEqual(times_reached(program, "main", ("main", (0,)), [7]), 1)


class ReachGrid(unittest.TestCase):
    def test_loops_count_with_what_they_need_to_run_at_all(self):
        self.assertEqual(reach_grid(one_part(1, [("times", N, [])]), "main").limits(), [(1, 1)])
        self.assertEqual(reach_grid(one_part(1, [("times", ((0, 1), 4, 3), [])]), "main").limits(), [(7, 3)])
        self.assertEqual(reach_grid(one_part(1, [("times", ((2, 2), 0, 1), [])]), "main").limits(), [(0, 1)])
        self.assertEqual(reach_grid(one_part(2, [("times", ((0, 2, 0), 5, 2), [])]), "main").limits(), [(4, 1), (0, 1)])
        self.assertEqual(reach_grid(one_part(0, [("times", ((3,), 0, 1), [])]), "main").limits(), [])

    def test_calls_hand_on_what_the_reach_grid_of_the_part_needs(self):
        row = ("row", 1, [("times", N, [("write", "a")])])
        program = Program([row, ("main", 1, [("call", "row", [((0, 1), 2, 2)])])])
        self.assertEqual(part_grid(program, "main").limits(), [(2, 2)])
        self.assertEqual(reach_grid(program, "main").limits(), [(4, 2)])

    def test_600_classes_and_601(self):
        for bound, fits in [(599, True), (600, False)]:
            program = one_part(1, [("below", N, bound, [("write", "a")], [])])
            for call in [lambda: reach_grid(program, "main"), lambda: never_reached(program, "main"),
                         lambda: one_way(program, "main"), lambda: trimmed(program, "main"),
                         lambda: reached(program, "main", ("main", (0,)))]:
                error = raised(call)
                self.assertEqual(error is None, fits)
                if not fits:
                    self.assertIsInstance(error, TooMany)
                    self.assertEqual(error.value, 601)
        program = one_part(1, [("times", ((0, 1), 599, 1), [])])
        self.assertEqual(raised(lambda: reach_grid(program, "main")).value, 601)
        self.assertIsNone(raised(lambda: part_grid(program, "main")))

    def test_whichever_statement_the_place_names(self):
        program = Program([("low", 0, [("write", "a")]), ("main", 1, [("below", N, 600, [], [])])])
        self.assertEqual(raised(lambda: reached(program, "main", ("low", (0,)))).value, 601)
        self.assertEqual(reached(program, "low", ("main", (0,))), no_points(0))

    def test_parts_that_are_called_may_have_any_number_of_classes(self):
        low = ("low", 1, [("below", N, 10 ** 6, [("write", "a")], [("write", "b")])])
        program = Program([low, ("main", 1, [("call", "low", [((10 ** 6 - 2, 1), 0, 1)])])])
        self.assertEqual(reach_grid(program, "main").limits(), [(2, 1)])
        self.assertEqual(reached(program, "main", ("low", (0, 1, 0))), points_from(1, 0, 2))
        self.assertEqual(raised(lambda: reach_grid(program, "low")).value, 10 ** 6 + 1)


class NeverReached(unittest.TestCase):
    def test_parts_that_are_only_called_where_nothing_is_reached(self):
        low = ("low", 0, [("write", "a"), ("below", ((1,), 0, 1), 1, [("write", "b")], [])])
        top = ("top", 1, [("below", N, 0, [("call", "low", [])], [("write", "c")])])
        program = Program([low, top])
        self.assertEqual(never_reached(program, "top"),
                         [("low", (0,)), ("low", (1,)), ("low", (1, 0, 0)), ("top", (0, 0, 0))])
        self.assertEqual(one_way(program, "top"), [(("top", (0,)), 1)])
        self.assertEqual(trimmed(program, "top").parts(), [("top", 1, [("write", "c")])])
        self.assertEqual(never_reached(program, "low"), [("low", (1, 0, 0))])
        self.assertEqual(one_way(program, "low"), [(("low", (1,)), 1)])

    def test_the_order_of_the_places(self):
        never = ((0, 0), 0, 1)
        row = [("write", "a"), ("below", N, 2, [("write", "b"), ("write", "c")], [("write", "d")]), ("write", "e")]
        program = Program([("low", 1, row), ("high", 1, [("times", never, row + [("call", "low", [N])])])])
        places = [place for name, _, body in program.parts() for place, _ in places_of(name, body)]
        self.assertEqual(never_reached(program, "high"), [place for place in places if place != ("high", (0,))])

    def test_a_part_that_some_calls_reach_one_way_and_some_the_other(self):
        low = ("low", 1, [("below", N, 5, [("write", "a")], [("write", "b")])])
        both = Program([low, ("top", 0, [("call", "low", [((4,), 0, 1)]), ("call", "low", [((5,), 0, 1)])])])
        self.assertEqual([never_reached(both, "top"), one_way(both, "top")], [[], []])
        one = Program([low, ("top", 0, [("call", "low", [((4,), 0, 1)]), ("call", "low", [((3,), 0, 1)])])])
        self.assertEqual([never_reached(one, "top"), one_way(one, "top")],
                         [[("low", (0, 1, 0))], [(("low", (0,)), 0)]])
        self.assertEqual(trimmed(one, "top").parts()[0], ("low", 1, [("write", "a")]))
        self.assertEqual(one_way(both, "low"), [])

    def test_a_test_that_is_never_reached_is_not_one_way(self):
        program = one_part(1, [("below", N, 0, [("below", N, 3, [("write", "a")], [])], [])])
        self.assertEqual(never_reached(program, "main"), [("main", (0, 0, 0)), ("main", (0, 0, 0, 0, 0))])
        self.assertEqual(one_way(program, "main"), [(("main", (0,)), 1)])
        self.assertEqual(trimmed(program, "main").parts(), [("main", 1, [])])

    def test_tests_that_hang_on_the_tests_around_them(self):
        inner = ("leaves", N, 0, 2, [("write", "b")], [("write", "c")])
        program = one_part(1, [("leaves", N, 0, 4, [inner], [inner])])
        self.assertEqual(never_reached(program, "main"), [("main", (0, 0, 0, 1, 0))])
        self.assertEqual(one_way(program, "main"), [(("main", (0, 0, 0)), 0)])
        self.assertEqual(trimmed(program, "main").parts()[0][2], [("leaves", N, 0, 4, [("write", "b")], [inner])])


class Trimmed(unittest.TestCase):
    def test_loops_with_bodies_that_have_become_empty_stay(self):
        program = one_part(1, [("times", ((0, 0), 0, 1), [("write", "a")]),
                               ("times", N, [("below", N, 0, [("write", "b")], [])])])
        self.assertEqual(trimmed(program, "main").parts()[0][2], [("times", ((0, 0), 0, 1), []), ("times", N, [])])

    def test_tests_in_tests_are_replaced_too(self):
        inner = ("below", N, 9, [("write", "a"), ("below", N, 5, [], [("write", "b")])], [("write", "c")])
        program = one_part(1, [("below", N, 4, [inner, ("write", "d")], [])])
        self.assertEqual(trimmed(program, "main").parts()[0][2], [("below", N, 4, [("write", "a"), ("write", "d")], [])])

    def test_parts_keep_their_names_numbers_of_unknowns_and_order(self):
        parts = [("d", 2, [("write", "a")]), ("b", 1, []), ("c", 3, [("call", "d", [((0, 1, 0, 0), 0, 1)] * 2)]),
                 ("a", 1, [("call", "c", [N] * 3), ("times", N, [("call", "b", [N])])])]
        program = Program(parts)
        self.assertEqual(trimmed(program, "a"), program)
        self.assertEqual([name for name, _, _ in trimmed(program, "c").parts()], ["d", "c"])

    def test_programs_for_no_unknowns(self):
        row = [("below", ((3,), 1, 1), 2, [("write", "a")], [("write", "b")])]
        self.assertEqual(trimmed(one_part(0, row), "main"), one_part(0, [("write", "b")]))
        self.assertEqual(reached(one_part(0, row), "main", ("main", (0, 1, 0))), one_point([]))

    def test_the_program_is_not_changed_and_shares_no_list(self):
        row = [("times", N, [("call", "low", [N])])]
        program = Program([("low", 1, []), ("main", 1, row)])
        before = program.parts()
        short = trimmed(program, "main")
        for item in lists_within(short.parts()):
            item.clear()
        self.assertEqual([program.parts(), short.parts()], [before, before])


class Limits(unittest.TestCase):
    def test_many_classes_and_a_great_weight(self):
        tests = [("leaves", N, at % 60, 60, [("write", "a")], []) for at in range(250)]
        wide = one_part(1, [("below", N, 60, [], [])] + tests)
        wider = one_part(1, [("below", N, 540, [], [])] + tests[:49])
        heavy = one_part(1, [("below", N, 10, [], [])] + [("write", "a")] * 4999)
        for program in [wide, wider, heavy]:
            for call in [lambda: never_reached(program, "main"), lambda: one_way(program, "main"),
                         lambda: trimmed(program, "main"), lambda: reached(program, "main", ("main", (1,)))]:
                self.assertLess(seconds(call), SECONDS)


if __name__ == "__main__":
    unittest.main()
