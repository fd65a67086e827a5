"""Point [27], second part: what makers write of what open texts write, as tables."""

import random
import unittest

from helpers import BIG, GREATEST, MAKER, SECONDS, cube, plain_word, raised, seconds
from openloops.accepted import accepted, state_grid
from openloops.automata import Automaton, accepts
from openloops.errors import TooLong, TooMany
from openloops.grids import Grid, class_of, place_in_class
from openloops.makers import Maker, maker_states
from openloops.maketables import made_table
from openloops.making import asked_behind
from openloops.tables import CaseTable
from openloops.texts import OpenText, written
from test_automata import random_automaton
from test_makers import STAYS, plain_made, random_maker
from test_texts import random_text

TEXT = OpenText(1, [("a", (0, 1)), ("b", (1, 0))])


def word_at(table, point):
    """Return what a table writes at a point."""
    places = {tuple(row): text for row, text in zip(cube_of(table.grid()), table.texts())}
    return written(places[tuple(class_of(table.grid(), point))], place_in_class(table.grid(), point))


def cube_of(grid):
    """Return all classes of a grid in order."""
    rows = [[]]
    for threshold, period in grid.limits():
        rows = [row + [count] for row in rows for count in range(threshold + period)]
    return rows


class Tables(unittest.TestCase):
    def test_example(self):
        wanted = CaseTable(Grid([(0, 2)]), [OpenText(1, [("x", (0, 1)), ("b", (1, 0))]),
                                            OpenText(1, [("x", (0, 1)), ("ab", (1, 0))])])
        self.assertEqual(made_table(TEXT, MAKER), wanted)

    def test_writes_what_the_maker_writes(self):
        chance, turns = random.Random(28), 0
        while turns < 120:
            many = turns % 4
            text, maker = random_text(chance, many, 3), random_maker(chance)
            if raised(lambda: made_table(text, maker)) is not None:
                continue
            turns += 1
            table = made_table(text, maker)
            for point in cube(many, [0, 14, 5, 3][many]):
                self.assertEqual(word_at(table, point), plain_made(maker, plain_word(text.pieces(), point)))

    def test_the_same_is_accepted_behind(self):
        chance, turns = random.Random(280), 0
        while turns < 40:
            many = turns % 3
            text, maker, automaton = random_text(chance, many, 3), random_maker(chance), random_automaton(chance, 3)
            if raised(lambda: made_table(text, maker)) is not None or raised(lambda: asked_behind(maker, automaton)) is not None:
                continue
            turns += 1
            asked = asked_behind(maker, automaton)
            if raised(lambda: accepted(text, asked)) is None:
                table, good = made_table(text, maker), accepted(text, asked)
                for point in cube(many, 4):
                    self.assertIs(point in good, accepts(automaton, word_at(table, point)))

    def test_great_numbers(self):
        text = OpenText(1, [("ab", (0, BIG)), ("c", (1, 0))])
        self.assertEqual(made_table(text, STAYS), CaseTable(Grid([(0, 1)]), [text]))
        twice = Maker("a", [[(1, "", False), (0, "", True)], [(0, "x", False), (1, "", True)]], closing=["", "y"])
        self.assertEqual(made_table(OpenText(1, [("a", (0, 2 * BIG))]), twice),
                         CaseTable(Grid([(0, 1)]), [OpenText(1, [("x", (0, BIG))])]))
        nothing = Maker("", [[(1, "a", False)], [(1, "", False)]], closing=["", "z"])
        self.assertEqual(made_table(OpenText(1, [("q", (0, BIG))]), nothing),
                         CaseTable(Grid([(1, 1)]), [OpenText(1, []), OpenText(1, [("az", (1, 0))])]))

    def test_no_unknowns(self):
        self.assertEqual(made_table(OpenText(0, [("aaab", (2,))]), MAKER), CaseTable(Grid([]), [OpenText(0, [("xabxab", (1,))])]))
        self.assertEqual(made_table(OpenText(0, []), MAKER).texts(), [OpenText(0, [])])

    def test_what_the_pieces_measure(self):
        text = OpenText(1, [("a", (0, 1))])
        for word, wanted in [("b" * 1999, None), ("b" * 2000, 2001)]:
            error = raised(lambda: made_table(text, Maker("", [[(0, word, False)]], closing=["c"])))
            self.assertEqual(None if error is None else (type(error), error.value), wanted and (TooLong, wanted))
        # In the class of 1 the word is read once and, at each place, five times more.
        five = Maker("", [[((state + 1) % 5 + 1 if state else 1, "b" * 100, False)] for state in range(6)], closing=["z"] * 6)
        limits = state_grid(text, maker_states(five)).limits()
        self.assertEqual(limits, [(1, 5)])
        self.assertEqual(raised(lambda: made_table(text, five)), None)
        long = Maker("", [[((state + 1) % 5 + 1 if state else 1, "b" * 400, False)] for state in range(6)], closing=["z"] * 6)
        error = raised(lambda: made_table(text, long))
        self.assertEqual((type(error), error.value), (TooLong, 400 + 5 * 400 + 1))
        error = raised(lambda: made_table(OpenText(1, [("a" * 2000, (1, 0))]), Maker("", [[(0, "b" * 2000, True)]], closing=[""])))
        self.assertEqual((type(error), error.value), (TooLong, 2000 * 2001))
        error = raised(lambda: made_table(OpenText(1, [("a", (0, BIG))]), Maker("", [[(1, "", False)], [(0, "b", False)]], closing=[""] * 2)))
        self.assertEqual(error, None)

    def test_the_first_class_that_is_too_long(self):
        # Behind 3 letters a closing word is written that is too long together with the rest.
        rows = [[(min(state + 1, 4), "ab", False)] for state in range(5)]
        maker = Maker("", rows, closing=["", "", "", "c" * 1995, "c" * 2000])
        error = raised(lambda: made_table(OpenText(1, [("q", (0, 1))]), maker))
        self.assertEqual((type(error), error.value), (TooLong, 2001))

    def test_too_many_classes(self):
        cycles = Maker("", [[(state, "", False)] for state in [1, 2, 0, 4, 5, 6, 3, 8, 9, 10, 11, 7]], closing=[""] * 12)
        text = OpenText(2, [("q", (0, 1, 1))])
        error = raised(lambda: made_table(text, cycles))
        self.assertEqual((type(error), error.value), (TooMany, 3600))
        self.assertEqual(made_table(OpenText(2, [("q", (0, 1, 6))]), cycles).texts(), [OpenText(2, [])])
        # The grid itself has 11 * 2 * 11 * 2 classes, with the greatest threshold for all of them more.
        tail = Maker("", [[(min(state + 1, 10), "", False)] for state in range(11)], closing=[""] * 11)
        text = OpenText(3, [("q", (0, 1, 10, 2))])
        self.assertEqual(state_grid(text, maker_states(tail)).limits(), [(10, 1), (1, 1), (5, 1)])
        error = raised(lambda: made_table(text, tail))
        self.assertEqual((type(error), error.value), (TooMany, 11 ** 3))

    def test_too_many_classes_ahead_of_too_long(self):
        tail = Maker("", [[(min(state + 1, 10), "a" * 2000, True)] for state in range(11)], closing=[""] * 11)
        error = raised(lambda: made_table(OpenText(3, [("q", (0, 1, 10, 2))]), tail))
        self.assertEqual((type(error), error.value), (TooMany, 11 ** 3))

    def test_measures_of_great_numbers(self):
        swing = Maker("", [[(1, "", True)], [(0, "x", False)]], closing=["", "yy"])
        error = raised(lambda: made_table(OpenText(1, [("abc", (0, GREATEST))]), swing))
        # In the class of 1 the word is read so often that just as many letters are written, and six more at each place.
        self.assertEqual((type(error), error.value), (TooLong, 3 * GREATEST + 6 + 2))

    def test_at_the_limits(self):
        cycles = Maker("", [[(state, "", state == 0)] for state in [1, 2, 0, 4, 5, 6, 3, 8, 9, 10, 11, 7]], closing=["z"] * 12)
        text = OpenText(2, [("a", (0, 1, 6)), ("b", (0, 1, 0))] * 300)
        self.assertLess(seconds(lambda: raised(lambda: made_table(text, cycles))), SECONDS)
        stays = Maker("", [[(state, "", True)] for state in [1, 2, 0, 4, 5, 6, 3, 8, 9, 10, 11, 7]], closing=["z"] * 12)
        self.assertLess(seconds(lambda: made_table(OpenText(1, [("ab", (0, 1))]), stays)), SECONDS)
        many = OpenText(1, [("a", (0, 1)), ("b", (0, 1))] * 900)
        self.assertLess(seconds(lambda: made_table(many, STAYS)), SECONDS)
        self.assertEqual(made_table(many, STAYS).texts(), [many])


class States(unittest.TestCase):
    def test_no_ends(self):
        self.assertEqual(maker_states(STAYS), Automaton("", [[0]], ends=[]))


if __name__ == "__main__":
    unittest.main()
