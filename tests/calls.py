"""A table of all functions: good arguments, and what is wrong for each argument with an error of its own."""

from helpers import (AUTOMATON, GRID, NO_AUTOMATON, NO_COUNT, NO_FORM, NO_GRID, NO_LETTER, NO_MANY, NO_SET, NO_TEXT,
                     NO_WORD, BIG, DEEP, DEEP_TUPLE, SET, TEXT, no_forms, no_point)
from openloops import errors
from openloops.alike import decisive, parting
from openloops.automata import Automaton, accepts, moved, rounds, state_behind
from openloops.forms import inserted, is_form, value
from openloops.grids import (Grid, class_forms, class_of, classes, each_class, led_forms, meeting, place_in_class,
                             refines, within)
from openloops.pieces import is_normal, normal
from openloops.pointcounts import each_point, how_many_ahead, how_many_in, how_many_points, point_in
from openloops.pointsets import (PointSet, all_points, first_parting, no_points, one_point, other_points, points_from,
                                 points_leaving)
from openloops.pointviews import every_points, first_point, fixed_points, led_grid, led_points, some_points
from openloops.shifts import earlier, later, thinned
from openloops.texts import (OpenText, joined, length, letters, repeated, replaced, size, spread, text_letter, unknowns,
                             written)

PAIR = OpenText(2, [("ab", (1, 1, 0)), ("b", (0, 0, 3))])
FINER = Grid([(2, 4)])
PAIRS = points_leaving(2, 0, 1, 2) & points_from(2, 1, 3)
ODD = points_leaving(1, 0, 1, 2)

NO_PIECES = [None, True, 0, "", "ab", ("ab", (1, 0)), (), {}, [("a", (1, 0))] * 5001, (("ab", (1, 0)),), TEXT, GRID]
NO_LIMITS = [None, True, 1, "", (1, 2), ((1, 2),), {}, [(1, 2)] * 4, [(1, 0)], [(-1, 1)], [(1,)], [(1, 2, 3)], [[1, 2]],
             [(True, 1)], [(0, True)], [(0, None)], ["ab"], [1, 2], DEEP, [DEEP_TUPLE], TEXT, GRID, SET]
NO_POINTS = [None, True, 1, "", (), ([0],), {}, [0], [[]], [[0, 0]], [(0,)], [[-1]], [[True]], [[0], None], [["0"]],
             [[[0]]], DEEP, TEXT, GRID, SET, [SET]]
NO_ALPHABET = NO_WORD + ["ba", "aa", "abca", "abb"]
NO_ROWS = [None, True, 0, "", [], (), {}, [[0]], [[0, 0, 0]], [[0, 1]], [[0, -1]], [[0, True]], [[0, None]], [(0, 0)],
           ((0, 0),), [[0, 0], [0, 2]], [[0, 0], 0], [[0, 0]] * 13, DEEP, TEXT, AUTOMATON]
NO_ENDS = [None, True, 0, "", (), (0,), {}, [2], [-1], [True], [None], [0, 0], [1, 0], [[0]], DEEP, TEXT, AUTOMATON]
NO_STATE = NO_COUNT + [2, BIG]
NO_POINT_AT_ALL = [bad for bad in no_point(4) if bad not in ([], [0, 0, 0])] + [[0] * 4]

NUMBER, WORD, FORM, POINT, LIST = (errors.InvalidNumber, errors.InvalidWord, errors.InvalidForm, errors.InvalidPoint,
                                   errors.InvalidList)
NO_UNKNOWN = (NUMBER, NO_COUNT + [1, BIG])
A_MANY, A_COUNT, A_FORM, A_LETTER = (NUMBER, NO_MANY), (NUMBER, NO_COUNT), (FORM, NO_FORM), (WORD, NO_LETTER)
A_TEXT, A_GRID, A_SET = (errors.InvalidText, NO_TEXT), (errors.InvalidGrid, NO_GRID), (errors.InvalidSet, NO_SET)
A_MACHINE, A_WORD = (errors.InvalidAutomaton, NO_AUTOMATON), (WORD, NO_WORD)
A_POINT, A_PAIR = (POINT, no_point(1)), (POINT, no_point(2))


def made_automaton(letters, rows, start, ends):
    """Make an automaton with all arguments by position, as the other calls are made."""
    return Automaton(letters, rows, start=start, ends=ends)


def looped_classes(grid):
    """Go through all classes that the generator yields."""
    return [point for point in each_class(grid)]


def looped_points(points, box):
    """Go through all points that the generator yields."""
    return [point for point in each_point(points, box)]


# (function, good arguments, for each argument its error and values that are wrong for it)
CALLS = [
    (is_form, [1, (0, 7)], [A_MANY]),
    (value, [(3, 1, 2), [10, 100]], [A_FORM, A_PAIR]),
    (inserted, [(1, 2, 3), 1, [(5, 1), (0, 4)]], [A_FORM, A_MANY, (LIST, no_forms(1, 2))]),
    (normal, [1, [("ab", (1, 0)), ("abab", (1, 1))]], [A_MANY, (errors.InvalidPieces, NO_PIECES)]),
    (is_normal, [1, [("ab", (0, 1))]], [A_MANY]),
    (OpenText, [1, [("ab", (1, 0)), ("abab", (1, 1))]], [A_MANY, (errors.InvalidPieces, NO_PIECES)]),
    (size, [PAIR], [A_TEXT]),
    (spread, [PAIR], [A_TEXT]),
    (unknowns, [PAIR], [A_TEXT]),
    (written, [PAIR, [2, 1]], [A_TEXT, A_PAIR]),
    (text_letter, [PAIR, [2, 1], 8], [A_TEXT, A_PAIR, (NUMBER, NO_COUNT + [9, BIG])]),
    (length, [PAIR], [A_TEXT]),
    (letters, [PAIR, "b"], [A_TEXT, A_LETTER]),
    (joined, [PAIR, PAIR], [A_TEXT, A_TEXT]),
    (repeated, [PAIR, 3], [A_TEXT, A_COUNT]),
    (replaced, [PAIR, 1, [(1, 2), (0, 0)]], [A_TEXT, A_MANY, (LIST, no_forms(1, 2))]),
    (decisive, [PAIR, PAIR], [A_TEXT, A_TEXT]),
    (parting, [PAIR, OpenText(2, [])], [A_TEXT, A_TEXT]),
    (later, [TEXT, 0, 2], [A_TEXT, NO_UNKNOWN, A_COUNT]),
    (earlier, [TEXT, 0], [A_TEXT, NO_UNKNOWN]),
    (thinned, [TEXT, 0, 2], [A_TEXT, NO_UNKNOWN, (NUMBER, NO_COUNT + [0])]),
    (Grid, [[(1, 2), (0, 3)]], [(LIST, NO_LIMITS)]),
    (classes, [GRID], [A_GRID]),
    (looped_classes, [GRID], [A_GRID]),
    (class_of, [GRID, [7]], [A_GRID, A_POINT]),
    (place_in_class, [GRID, [7]], [A_GRID, A_POINT]),
    (class_forms, [GRID, [7]], [A_GRID, A_POINT]),
    (refines, [FINER, GRID], [A_GRID, A_GRID]),
    (meeting, [FINER, GRID], [A_GRID, A_GRID]),
    (within, [GRID, [2], FINER], [A_GRID, A_POINT, A_GRID]),
    (led_forms, [FINER, [4], GRID], [A_GRID, A_POINT, A_GRID]),
    (PointSet, [GRID, [[5], [0]]], [A_GRID, (LIST, NO_POINTS)]),
    (all_points, [2], [A_MANY]),
    (no_points, [2], [A_MANY]),
    (points_from, [1, 0, 3], [A_MANY, NO_UNKNOWN, A_COUNT]),
    (points_leaving, [1, 0, 3, 4], [A_MANY, NO_UNKNOWN, A_COUNT, (NUMBER, NO_COUNT + [0, 1, 2, 3])]),
    (one_point, [[4, 5]], [(POINT, NO_POINT_AT_ALL)]),
    (other_points, [ODD], [A_SET]),
    (first_parting, [ODD, SET], [A_SET, A_SET]),
    (first_point, [ODD], [A_SET]),
    (fixed_points, [ODD, 0, 3], [A_SET, NO_UNKNOWN, A_COUNT]),
    (some_points, [ODD, 0], [A_SET, NO_UNKNOWN]),
    (every_points, [ODD, 0], [A_SET, NO_UNKNOWN]),
    (led_points, [PAIRS, 1, [(0, 3), (0, 1)]], [A_SET, A_MANY, (LIST, no_forms(1, 2))]),
    (led_grid, [PAIRS, 1, [(0, 3), (0, 1)]], [A_SET, A_MANY, (LIST, no_forms(1, 2))]),
    (how_many_points, [PAIRS], [A_SET]),
    (how_many_in, [PAIRS, [5, 10]], [A_SET, A_PAIR]),
    (how_many_ahead, [PAIRS, [5, 10], [3, 4]], [A_SET, A_PAIR, A_PAIR]),
    (point_in, [PAIRS, [5, 10], 8], [A_SET, A_PAIR, (NUMBER, NO_COUNT + [14, BIG])]),
    (looped_points, [PAIRS, [5, 10]], [A_SET, A_PAIR]),
    (made_automaton, ["a", [[1, 0], [0, 1]], 1, [0, 1]],
     [(WORD, NO_ALPHABET), (LIST, NO_ROWS), (NUMBER, NO_STATE), (LIST, NO_ENDS)]),
    (moved, [AUTOMATON, "aba"], [A_MACHINE, A_WORD]),
    (rounds, [AUTOMATON, "aba"], [A_MACHINE, A_WORD]),
    (state_behind, [AUTOMATON, "aba"], [A_MACHINE, A_WORD]),
    (accepts, [AUTOMATON, "aba"], [A_MACHINE, A_WORD]),
]
