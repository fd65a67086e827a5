"""Points [24] and [25]: what automata accept of what open texts write."""

import random
import unittest

from helpers import BIG, GREATEST, SECONDS, SET, TEXT, cube, plain_word, raised, random_set, seconds
from openloops.accepted import accepted, set_automaton, state_at, state_grid, state_sets
from openloops.automata import Automaton, accepts, rounds, state_behind
from openloops.errors import InvalidAutomaton, InvalidSet, TooMany
from openloops.grids import Grid, class_of
from openloops.machines import least_automaton
from openloops.pointsets import PointSet, no_points, one_point, points_from, points_leaving
from openloops.texts import OpenText, written
from test_automata import EVEN, FINDS, random_automaton
from test_texts import random_text

PAIR = OpenText(2, [("a", (0, 3, 0)), ("b", (0, 0, 1))])


class Texts(unittest.TestCase):
    def test_examples(self):
        self.assertEqual(accepted(PAIR, EVEN), points_leaving(2, 0, 0, 2))
        self.assertEqual(accepted(PAIR, FINDS), points_from(2, 0, 1) & points_from(2, 1, 2))
        self.assertEqual(state_at(PAIR, EVEN, [10 ** 29 + 1, 7]), 1)
        self.assertEqual([state_grid(PAIR, FINDS).limits(), state_grid(PAIR, EVEN).limits(),
                          state_sets(PAIR, FINDS)[2].classes(), state_sets(PAIR, EVEN)[1].grid().limits()],
                         [[(1, 1), (2, 1)], [(0, 2), (0, 1)], [[1, 1]], [(0, 2), (0, 1)]])

    def test_the_states_at_small_points(self):
        chance, turns = random.Random(24), 0
        while turns < 120:
            many = turns % 4
            text, automaton = random_text(chance, many, 3), random_automaton(chance, chance.randint(1, 4))
            if isinstance(raised(lambda: state_grid(text, automaton)), TooMany):
                continue
            turns += 1
            grid, sets, good = state_grid(text, automaton), state_sets(text, automaton), accepted(text, automaton)
            self.assertEqual(len(sets), len(automaton.rows()))
            told = {}
            for point in cube(many, [0, 12, 5, 3][many]):
                state = state_behind(automaton, plain_word(text.pieces(), point))
                self.assertEqual(state_at(text, automaton, point), state)
                self.assertEqual([point in points for points in sets], [number == state for number in range(len(sets))])
                self.assertIs(point in good, state in automaton.ends())
                self.assertEqual(told.setdefault(tuple(class_of(grid, point)), state), state)

    def test_the_limits_of_the_grid(self):
        cycle = Automaton("a", [[1, 0], [2, 1], [3, 2], [4, 3], [5, 4], [2, 5]], ends=[])
        self.assertEqual(rounds(cycle, "a"), (2, 4))
        for times, limit in [(1, (2, 4)), (2, (1, 2)), (3, (1, 4)), (4, (1, 1)), (6, (1, 2))]:
            self.assertEqual(state_grid(OpenText(1, [("a", (5, times))]), cycle).limits(), [limit])
        text = OpenText(3, [("a", (0, 2, 1, 0)), ("ba", (0, 3, 0, 0)), ("b", (1, 0, 0, 0))])
        self.assertEqual(rounds(cycle, "ab"), (2, 4))
        self.assertEqual(state_grid(text, cycle).limits(), [(1, 4), (2, 4), (0, 1)])
        self.assertEqual(state_grid(OpenText(0, [("ab", (3,))]), cycle).limits(), [])
        self.assertEqual(state_sets(OpenText(0, [("ab", (3,))]), cycle)[3], one_point([]))

    def test_classes_up_to_600(self):
        # Cycles of 3, 4 and 5 states have the period 60, so three unknowns have 60, and 60 times 10.
        cycles = Automaton("", [[1], [2], [0], [4], [5], [6], [3], [8], [9], [10], [11], [7]], ends=[0, 1, 2])
        self.assertEqual(state_grid(OpenText(2, [("q", (0, 1, 6))]), cycles).limits(), [(0, 60), (0, 10)])
        self.assertEqual(accepted(OpenText(2, [("q", (0, 1, 6))]), cycles).classes(), [[0, 0]])
        text = OpenText(3, [("q", (0, 1, 6, 30))])
        for function in [state_grid, state_sets, accepted]:
            error = raised(lambda: function(text, cycles))
            self.assertEqual((type(error), error.value), (TooMany, 1200))
            error = raised(lambda: function(OpenText(3, [("q", (0, 1, 1, 1))]), cycles))
            self.assertEqual((type(error), error.value), (TooMany, 216000))
        self.assertEqual(state_at(text, cycles, [BIG, BIG, BIG]), 37 * BIG % 3)

    def test_errors_of_texts_without_powers(self):
        for text in [OpenText(0, []), OpenText(2, []), OpenText(1, [("ab", (1, 0))])]:
            for function, rest in [(state_grid, []), (state_sets, []), (accepted, []), (state_at, [None])]:
                self.assertIs(type(raised(lambda: function(text, None, *rest))), InvalidAutomaton)

    def test_great_counts(self):
        text = OpenText(2, [("ab", (7, BIG, 3)), ("c", (1, 0, 0)), ("ba", (0, GREATEST, BIG))])
        chance = random.Random(241)
        for _ in range(50):
            automaton = random_automaton(chance, chance.randint(1, 6))
            point = [chance.randint(0, GREATEST), chance.randint(0, 3)]
            runs = [("ab", BIG * point[0] + 3 * point[1] + 7), ("c", 1), ("ba", GREATEST * point[0] + BIG * point[1])]
            state = automaton.start()
            for word, times in runs:
                limit = rounds(automaton, word)
                short = times if times < sum(limit) else limit[0] + (times - limit[0]) % limit[1]
                state = state_behind(Automaton(automaton.letters(), automaton.rows(), start=state, ends=[]), word * short)
            self.assertEqual(state_at(text, automaton, point), state)

    def test_at_the_limits(self):
        cycles = Automaton("", [[1], [2], [0], [4], [5], [6], [3], [8], [9], [10], [11], [7]], ends=[4])
        text = OpenText(2, [("a", (0, 1, 6)), ("b", (0, 1, 0))] * 1000)
        for function in [state_grid, state_sets, accepted]:
            self.assertLess(seconds(lambda: function(text, cycles)), SECONDS)
        self.assertLess(seconds(lambda: state_at(text, cycles, [BIG, BIG])), SECONDS)


class Sets(unittest.TestCase):
    def test_examples(self):
        odd = points_from(1, 0, 3) & points_leaving(1, 0, 1, 2)
        self.assertEqual([set_automaton(odd, "b").rows(), set_automaton(odd, "b").ends()],
                         [[[1, 0], [2, 1], [3, 2], [2, 3]], [3]])
        self.assertNotEqual(accepted(OpenText(1, [("b", (2, 5))]), set_automaton(odd, "b")), odd)

    def test_accepts_by_the_number_of_letters(self):
        chance = random.Random(25)
        for _ in range(60):
            points = random_set(chance, 1)
            automaton = set_automaton(points, "b")
            self.assertEqual((automaton.letters(), automaton.start()), ("b", 0))
            self.assertEqual(len(automaton.rows()), sum(points.grid().limits()[0]))
            for _ in range(20):
                word = "".join(chance.choice("abc") for _ in range(chance.randint(0, 12)))
                self.assertIs(accepts(automaton, word), [word.count("b")] in points)
            self.assertEqual(accepted(OpenText(1, [("ab", (0, 1))]), automaton), points)
            self.assertEqual(len(least_automaton(automaton).rows()), len(automaton.rows()))

    def test_the_edges(self):
        self.assertEqual(set_automaton(SET, "z"), Automaton("z", [[0, 0]], ends=[0]))
        self.assertEqual(set_automaton(no_points(1), "a"), Automaton("a", [[0, 0]], ends=[]))
        self.assertEqual(len(set_automaton(one_point([10]), "a").rows()), 12)
        self.assertEqual(len(set_automaton(points_leaving(1, 0, 3, 12), "a").rows()), 12)
        for points, wanted in [(one_point([11]), 13), (points_leaving(1, 0, 3, 13), 13), (points_from(1, 0, 598), 599),
                               (PointSet(Grid([(300, 300)]), [[298], [599]]), 600)]:
            error = raised(lambda: set_automaton(points, "a"))
            self.assertEqual((type(error), error.value), (TooMany, wanted))

    def test_sets_for_other_numbers_of_unknowns(self):
        for points in [one_point([]), one_point([1, 1]), no_points(3)]:
            error = raised(lambda: set_automaton(points, "A"))
            self.assertIs(type(error), InvalidSet)
            self.assertIs(error.value, points)


class Written(unittest.TestCase):
    def test_what_is_accepted_is_what_is_written(self):
        self.assertEqual([accepts(EVEN, written(TEXT, [count])) for count in range(6)],
                         [[count] in accepted(TEXT, EVEN) for count in range(6)])


if __name__ == "__main__":
    unittest.main()
