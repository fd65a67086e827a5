"""Programs before machines, points [43] and [44]."""

import itertools
import math
import random
import unittest

from helpers import (AUTOMATON, BIG, GREATEST, MAKER, SECONDS, by_sum, cube, raised, random_automaton, random_maker,
                     seconds)
from openloops.automata import Automaton, rounds, state_behind
from openloops.checked import accepted_points, checked, machine_grid, run_made_length, run_state, state_points
from openloops.errors import TooMany
from openloops.grids import class_of, classes
from openloops.makers import Maker, made_word
from openloops.pointsets import all_points, no_points, one_point, points_from, points_leaving
from openloops.programs import Program
from openloops.running import run, run_length
from walking import N, random_program, rows_within, walk, walk_part

FINDS = Automaton("ab", [[1, 0, 0], [1, 2, 0], [1, 3, 0], [3, 3, 3]], ends=[3])
ONE = Automaton("", [[0]], ends=[0])
CIRCLE = Automaton("a", [[(at + 1) % 12, at] for at in range(12)], ends=[0])


def one_part(many, body):
    return Program([("main", many, body)])


def plain_limits(parts, many, row, automaton):
    """Return the limits of the machine grid of a row, as the words of the document have it, from written words."""
    limits = [(0, 1)] * many
    for statement in row:
        kind, wants = statement[0], []
        for inner in rows_within(statement):
            limits = meet(limits, plain_limits(parts, many, inner, automaton))
        if kind == "times":
            wants = [(statement[1], loop_limit(parts, many, statement[2], automaton))]
        elif kind == "below":
            wants = [(statement[1], (statement[2], 1))]
        elif kind == "leaves":
            wants = [(statement[1], (0, statement[3]))]
        elif kind == "call":
            _, count, body = [part for part in parts if part[0] == statement[1]][0]
            wants = list(zip(statement[2], plain_limits(parts, count, body, automaton)))
        for (form, less, by), (threshold, period) in wants:
            for at, number in enumerate(form[1:]):
                if number > 0:
                    least = max(0, math.ceil((less + by * threshold - form[0]) / number))
                    turns = by * period // math.gcd(by * period, number)
                    limits = meet(limits, [(least, turns) if place == at else (0, 1) for place in range(many)])
    return limits


def meet(one, other):
    return [(max(a[0], b[0]), math.lcm(a[1], b[1])) for a, b in zip(one, other)]


def loop_limit(parts, many, body, automaton):
    threshold, period = 0, 1
    inner = plain_limits(parts, many, body, automaton)
    if math.prod(sum(limit) for limit in inner) > 200:
        raise OverflowError
    for point in itertools.product(*[range(sum(limit)) for limit in inner]):
        word = walk(parts, body, list(point))
        if len(word) > 2000:
            raise OverflowError
        limit = rounds(automaton, word)
        threshold, period = max(threshold, limit[0]), math.lcm(period, limit[1])
    return (threshold, period)


def cases(how_many, depth=3):
    """Yield random programs and automata."""
    for seed in range(how_many):
        chance = random.Random(seed)
        program = random_program(chance, [chance.randint(0, 3) for _ in range(2)], depth)
        yield program, "b", program.parts()[-1][1], random_automaton(chance), random_maker(chance)


def short_points(program, name, many, most, letters=400):
    return [point for point in cube(many, most) if run_length(program, name, point) <= letters]


class Runs(unittest.TestCase):
    def test_states_and_lengths_are_those_of_the_written_words(self):
        for program, name, many, automaton, maker in cases(150):
            for point in short_points(program, name, many, [0, 5, 3, 2][many]):
                word = run(program, name, point)
                self.assertEqual(run_state(program, name, point, automaton), state_behind(automaton, word))
                self.assertEqual(run_made_length(program, name, point, maker), len(made_word(maker, word)))

    def test_great_counts_in_loops_within_loops(self):
        row = [("write", "a")]
        for _ in range(11):
            row = [("times", N, row + [("write", "b")])]
        program = one_part(1, row)
        total = sum(GREATEST ** at for at in range(1, 12))
        double = Maker("a", [[(0, "xx", False), (0, "", True)]], closing=["zzz"])
        self.assertEqual(run_length(program, "main", [GREATEST]), total + GREATEST ** 11)
        self.assertEqual(run_made_length(program, "main", [GREATEST], double), total + 2 * GREATEST ** 11 + 3)
        self.assertEqual(run_state(program, "main", [GREATEST], CIRCLE), GREATEST ** 11 % 12)
        for call in [lambda: run_state(program, "main", [GREATEST], CIRCLE),
                     lambda: run_made_length(program, "main", [GREATEST], double)]:
            self.assertLess(seconds(call), SECONDS)

    def test_1_and_12_states(self):
        program = one_part(1, [("times", N, [("write", "ab")])])
        wide = Maker("a", [[((at + 1) % 12, "a" * at, False), (at, "", True)] for at in range(12)],
                     closing=["b" * at for at in range(12)])
        for count in [0, 1, 11, 12, 13, 50]:
            self.assertEqual(run_state(program, "main", [count], ONE), 0)
            self.assertEqual(run_state(program, "main", [count], CIRCLE), count % 12)
            self.assertEqual(run_made_length(program, "main", [count], wide), len(made_word(wide, "ab" * count)))
        self.assertEqual(run_made_length(program, "main", [12 * BIG + 3], wide), BIG * 66 + 3 + 12 * BIG + 3 + 3)

    def test_no_unknowns_and_what_writes_nothing(self):
        program = Program([("none", 0, []), ("main", 0, [("times", ((BIG,), 0, 1), [("call", "none", [])])])])
        self.assertEqual(run_state(program, "main", [], AUTOMATON), 0)
        self.assertEqual(run_made_length(program, "main", [], MAKER), 0)
        closing = Maker("", [[(0, "", True)]], closing=["abc"])
        self.assertEqual(run_made_length(program, "main", [], closing), 3)

    def test_heavy_bodies(self):
        row = [("times", N, [("write", "ab"[at % 2] * (1 + at % 40))]) for at in range(2500)]
        program = one_part(1, row)
        wide = Maker("a", [[((at + 1) % 12, "a" * at, False), (at, "", True)] for at in range(12)], closing=[""] * 12)
        self.assertLess(seconds(lambda: run_state(program, "main", [BIG], CIRCLE)), SECONDS)
        self.assertLess(seconds(lambda: run_made_length(program, "main", [BIG], wide)), SECONDS)


class MachineGrid(unittest.TestCase):
    def test_it_is_the_one_that_is_told(self):
        found = 0
        for program, name, many, automaton, _ in cases(200):
            try:
                limits = plain_limits(program.parts(), many, program.parts()[-1][2], automaton)
            except OverflowError:
                continue
            if math.prod(sum(limit) for limit in limits) <= 600:
                found += 1
                self.assertEqual(machine_grid(program, name, automaton).limits(), limits)
            else:
                self.assertIsInstance(raised(lambda: machine_grid(program, name, automaton)), TooMany)
        self.assertGreater(found, 100)

    def test_rounds_are_taken_for_all_words_of_the_body(self):
        body = [("leaves", N, 0, 2, [("write", "aaa")], [("write", "aaaa")])]
        program = one_part(1, [("times", N, body)])
        self.assertEqual(machine_grid(program, "main", CIRCLE).limits(), [(0, 12)])
        program = one_part(1, [("times", N, [("write", "aaa")]), ("times", N, [("write", "aaaa")])])
        self.assertEqual(machine_grid(program, "main", CIRCLE).limits(), [(0, 12)])
        program = one_part(1, [("times", N, [("write", "aaa")])])
        self.assertEqual(machine_grid(program, "main", CIRCLE).limits(), [(0, 4)])
        program = one_part(1, [("times", ((0, 2), 1, 1), [("write", "aaa")])])
        self.assertEqual(machine_grid(program, "main", CIRCLE).limits(), [(1, 2)])
        program = one_part(1, [("times", N, [("write", "ab")])])
        self.assertEqual(machine_grid(program, "main", FINDS).limits(), [(1, 1)])

    def test_loops_in_loops_that_no_text_can_say(self):
        square = one_part(1, [("times", N, [("times", N, [("write", "a")])])])
        self.assertEqual(machine_grid(square, "main", CIRCLE).limits(), [(0, 12)])
        sets = state_points(square, "main", CIRCLE)
        for count in range(40):
            self.assertTrue([count] in sets[count ** 2 % 12])
        self.assertEqual(accepted_points(square, "main", CIRCLE), points_leaving(1, 0, 0, 6))

    def test_one_state(self):
        program = one_part(2, [("times", ((1, 2, 3), 1, 1), [("write", "a")])])
        self.assertEqual(machine_grid(program, "main", ONE).limits(), [(0, 1), (0, 1)])
        self.assertEqual(accepted_points(program, "main", ONE), all_points(2))
        self.assertIsNone(checked(program, "main", ONE))

    def test_calls_count_with_the_machine_grid_of_the_body(self):
        low = ("low", 2, [("times", ((0, 1, 0), 0, 1), [("write", "a")]), ("below", ((0, 0, 1), 0, 1), 4, [], [])])
        program = Program([low, ("main", 1, [("call", "low", [((0, 1), 0, 3), ((1, 1), 0, 1)])])])
        self.assertEqual(machine_grid(program, "low", AUTOMATON).limits(), [(0, 2), (4, 1)])
        self.assertEqual(machine_grid(program, "main", AUTOMATON).limits(), [(3, 6)])

    def test_600_classes_and_601(self):
        for bound, error in [(599, None), (600, 601)]:
            program = one_part(1, [("below", N, bound, [], [])])
            for call in [machine_grid, state_points, accepted_points, checked]:
                found = raised(lambda: call(program, "main", AUTOMATON))
                self.assertEqual(None if found is None else found.value, error)
        self.assertIsInstance(found, TooMany)

    def test_which_row_is_named_by_the_error(self):
        wide, wider = ("below", N, 700, [], []), ("below", N, 800, [], [])
        program = one_part(1, [("times", N, [wide]), ("times", N, [wider])])
        self.assertEqual(raised(lambda: machine_grid(program, "main", AUTOMATON)).value, 701)
        program = one_part(1, [("times", N, [wider]), ("times", N, [wide])])
        self.assertEqual(raised(lambda: machine_grid(program, "main", AUTOMATON)).value, 801)
        program = one_part(1, [wider, ("below", N, 900, [wide], [])])
        self.assertEqual(raised(lambda: machine_grid(program, "main", AUTOMATON)).value, 701)
        program = one_part(1, [("below", N, 900, [("times", N, [wider])], [wide])])
        self.assertEqual(raised(lambda: machine_grid(program, "main", AUTOMATON)).value, 801)
        # A row ahead of the one in which it stands.
        program = one_part(1, [("times", ((0, 1), 950, 1), [("write", "a"), wide])])
        self.assertEqual(raised(lambda: machine_grid(program, "main", AUTOMATON)).value, 701)
        program = one_part(1, [("times", ((0, 1), 950, 1), [("write", "a")])])
        self.assertEqual(raised(lambda: machine_grid(program, "main", AUTOMATON)).value, 952)

    def test_which_part_is_named_by_the_error(self):
        def row(name, bound):
            return (name, 1, [("below", N, bound, [], [])])
        free = ("free", 1, [("below", N, 999, [], [])])
        first = ("call", "first", [((0, 0), 0, 1)])
        second = ("call", "second", [((0, 0), 0, 1)])
        program = Program([free, row("first", 700), row("second", 800), ("main", 1, [second, first])])
        self.assertEqual(raised(lambda: checked(program, "main", AUTOMATON)).value, 701)
        self.assertEqual(raised(lambda: checked(program, "second", AUTOMATON)).value, 801)
        program = Program([free, row("first", 700), ("second", 1, [("below", N, 800, [], []), first]),
                           ("main", 1, [second, ("below", N, 900, [], [])])])
        self.assertEqual(raised(lambda: checked(program, "main", AUTOMATON)).value, 701)
        # What a part calls is refused even where the part itself needs no class of it.
        program = Program([row("first", 600), ("main", 1, [first])])
        self.assertEqual(raised(lambda: checked(program, "main", AUTOMATON)).value, 601)
        program = Program([free, row("first", 500), ("main", 1, [first])])
        self.assertIsNone(raised(lambda: checked(program, "main", AUTOMATON)))


class Sets(unittest.TestCase):
    def test_sets_have_the_points_at_which_the_words_end_in_the_state(self):
        for program, name, many, automaton, _ in cases(150):
            if raised(lambda: machine_grid(program, name, automaton)) is not None:
                continue
            sets, points = state_points(program, name, automaton), accepted_points(program, name, automaton)
            self.assertEqual(len(sets), len(automaton.rows()))
            for point in short_points(program, name, many, [0, 8, 4, 2][many]):
                state = state_behind(automaton, walk_part(program, name, point))
                self.assertEqual([point in each for each in sets], [at == state for at in range(len(sets))])
                self.assertEqual(point in points, state in automaton.ends())

    def test_each_state_is_led_to_one_state_in_a_class(self):
        for program, name, many, automaton, _ in cases(60):
            if raised(lambda: machine_grid(program, name, automaton)) is not None:
                continue
            grid = machine_grid(program, name, automaton)
            for start in range(len(automaton.rows())):
                moved = Automaton("ab", automaton.rows(), start=start, ends=[])
                for point in cube(many, [0, 12, 5, 3][many]):
                    self.assertEqual(run_state(program, name, point, moved),
                                     run_state(program, name, class_of(grid, point), moved))

    def test_checked_returns_the_least_point_that_is_not_accepted(self):
        told = []
        for program, name, many, automaton, _ in cases(200):
            if raised(lambda: machine_grid(program, name, automaton)) is not None:
                continue
            point = checked(program, name, automaton)
            told.append(point is None)
            if point is None:
                self.assertEqual(accepted_points(program, name, automaton), all_points(many))
            else:
                self.assertNotIn(run_state(program, name, point, automaton), automaton.ends())
            for other in by_sum(many, sum(point) if point is not None else 4):
                if other == point:
                    break
                self.assertIn(run_state(program, name, other, automaton), automaton.ends())
        self.assertTrue(any(told) and not all(told))

    def test_the_first_in_order_of_points_with_one_sum(self):
        rows = [("times", ((0, 1, 0), 0, 1), [("write", "a")]), ("times", ((0, 0, 1), 0, 1), [("write", "a")])]
        program = one_part(2, rows)
        self.assertEqual(checked(program, "main", AUTOMATON), [0, 1])
        no = Automaton("", [[0]], ends=[])
        self.assertEqual([checked(program, "main", no), accepted_points(program, "main", no)], [[0, 0], no_points(2)])

    def test_no_unknowns(self):
        program = one_part(0, [("times", ((7,), 0, 2), [("write", "a")])])
        self.assertEqual(machine_grid(program, "main", AUTOMATON).limits(), [])
        self.assertEqual(checked(program, "main", AUTOMATON), [])
        self.assertEqual(state_points(program, "main", AUTOMATON), [no_points(0), one_point([])])

    def test_twelve_states(self):
        program = one_part(1, [("times", N, [("write", "a")]), ("below", N, 5, [("write", "aaaa")], [])])
        self.assertEqual(len(classes(machine_grid(program, "main", CIRCLE))), 17)
        self.assertEqual(accepted_points(program, "main", CIRCLE), points_leaving(1, 0, 0, 12) & points_from(1, 0, 12))

    def test_limits(self):
        wide = one_part(1, [("leaves", N, 0, 600, [("write", "a")], [])] + [("write", "ab")] * 98)
        heavy = one_part(1, [("times", N, [("write", "a")] * 2400), ("times", N, [("write", "ab")] * 2400)])
        for program in [wide, heavy]:
            for call in [state_points, accepted_points, checked]:
                self.assertLess(seconds(lambda: call(program, "main", CIRCLE)), SECONDS)


if __name__ == "__main__":
    unittest.main()
