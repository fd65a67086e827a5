"""A table of all functions: good arguments, and what is wrong for each argument with an error of its own."""

from helpers import (AUTOMATON, BIG, DEEP, DEEP_TUPLE, GRID, MAKER, NO_AUTOMATON, NO_COUNT, NO_FORM, NO_GRID,
                     NO_LETTER, NO_MAKER, NO_MANY, NO_NAME, NO_PROGRAM, NO_SET, NO_TABLE, NO_TEXT, NO_WORD, NO_WORKSHOP,
                     OBJECTS, PROGRAM, SET, TABLE, TEXT, no_amount, no_amounts, no_forms, no_point)
from openloops import errors
from openloops.accepted import accepted, set_automaton, state_at, state_grid, state_sets
from openloops.alike import decisive, parting
from openloops.automata import Automaton, accepts, moved, rounds, state_behind
from openloops.checked import accepted_points, checked, machine_grid, run_made_length, run_state, state_points
from openloops.compiled import compiled, parting_parts, part_grid, program_of, same_parts
from openloops.deeds import came_from, changed, followed, is_deed, may_change, parts_changed
from openloops.derivations import derivation
from openloops.forms import inserted, is_form, value
from openloops.gathering import accepted_table, gathered_grid, gathered_points, gathered_table, made_of_table
from openloops.grids import (Grid, class_forms, class_of, classes, each_class, led_forms, meeting, place_in_class,
                             refines, within)
from openloops.lengths import length_points, letter_points
from openloops.machines import least_automaton, parting_word
from openloops.makers import Maker, made_word, maker_states
from openloops.maketables import made_table
from openloops.making import asked_behind, maker_behind, parting_input
from openloops.mending import faults, mended
from openloops.origins import born, deed_of, parting_since, shares
from openloops.pieces import is_normal, normal
from openloops.pointcounts import each_point, how_many_ahead, how_many_in, how_many_points, point_in
from openloops.pointsets import (PointSet, all_points, first_parting, no_points, one_point, other_points, points_from,
                                 points_leaving)
from openloops.pointviews import every_points, first_point, fixed_points, led_grid, led_points, some_points
from openloops.printer import line_of, place_at, program_text
from openloops.programs import Program, amount_value, is_amount
from openloops.reached import never_reached, one_way, reach_grid, reached, times_reached, trimmed
from openloops.reader import read_program, wrong_line
from openloops.rewriting import is_step, stepped
from openloops.running import run, run_length, run_letter, run_letters, run_part
from openloops.shifts import earlier, later, thinned
from openloops.tables import CaseTable
from openloops.tabletexts import read_table, table_text
from openloops.tableviews import (agreeing_points, chosen, joined_tables, parting_tables, table_at, table_length,
                                  table_letter, table_of, table_written, text_at, texts_on)
from openloops.texts import (OpenText, joined, length, letters, repeated, replaced, size, spread, text_letter, unknowns,
                             written)
from openloops.tracing import number_of_way, way_to, written_by
from openloops.workshop import Workshop

PAIR = OpenText(2, [("ab", (1, 1, 0)), ("b", (0, 0, 3))])
FINER = Grid([(2, 4)])
PAIRS = points_leaving(2, 0, 1, 2) & points_from(2, 1, 3)
ODD = points_leaving(1, 0, 1, 2)

NO_PIECES = [None, True, 0, "", "ab", ("ab", (1, 0)), (), {}, [("a", (1, 0))] * 5001, (("ab", (1, 0)),), TEXT, GRID]
NO_LIMITS = [None, True, 1, "", (1, 2), ((1, 2),), {}, [(1, 2)] * 4, [(1, 0)], [(-1, 1)], [(1,)], [(1, 2, 3)], [[1, 2]],
             [(True, 1)], [(0, True)], [(0, None)], ["ab"], [1, 2], DEEP, [DEEP_TUPLE], TEXT, GRID, SET]
NO_POINTS = [None, True, 1, "", (), ([0],), {}, [0], [[]], [[0, 0]], [(0,)], [[-1]], [[True]], [[0], None], [["0"]],
             [[[0]]], DEEP, TEXT, GRID, SET, [SET]]
NO_ALPHABET = NO_WORD + ["ba", "aa", "abca", "abb"]
NO_ROWS = [None, True, 0, "", [], (), {}, [[0]], [[0, 0, 0]], [[0, 1]], [[0, -1]], [[0, True]], [[0, None]], [(0, 0)],
           ((0, 0),), [[0, 0], [0, 2]], [[0, 0], 0], [[0, 0]] * 13, DEEP, TEXT, AUTOMATON]
NO_ENDS = [None, True, 0, "", (), (0,), {}, [2], [-1], [True], [None], [0, 0], [1, 0], [[0]], DEEP, TEXT, AUTOMATON]
NO_STATE = NO_COUNT + [2, BIG]
NO_ENTRIES = [None, True, 0, "", [], (), {}, [[(0, "", True)]], [[(0, "", True)] * 3], [[(0, "", True), (1, "", True)]],
              [[(0, "", True), (-1, "", True)]], [[(0, "", True), (True, "", True)]], [[(0, "", True), (0, "A", True)]],
              [[(0, "", True), (0, "a" * 2001, True)]], [[(0, "", True), (0, "", 1)]], [[(0, "", True), (0, "", None)]],
              [[(0, "", True), (0, "")]], [[(0, "", True), [0, "", True]]], [((0, "", True), (0, "", True))],
              ([(0, "", True), (0, "", True)],), [[(0, "", True), (0, 0, True)]], [[(0, "", True)] * 2] * 13, [0],
              DEEP, TEXT, MAKER]
NO_CLOSING = [None, True, 0, "", "ab", (), ("", ""), {}, [], [""], [""] * 3, ["", "A"], ["", None], ["", 0],
              ["", "a" * 2001], ["", [""]], DEEP, TEXT, MAKER]
NO_TEXTS = [None, True, 0, "", (), (TEXT, TEXT, TEXT), {}, [], [TEXT], [TEXT] * 2, [TEXT] * 4, [TEXT, TEXT, None],
            [TEXT, TEXT, "ab"], [TEXT, TEXT, PAIR], [TEXT, TEXT, [TEXT]], [PAIR] * 3, DEEP] + OBJECTS
NO_PARTS = [None, True, 0, "", "main", (), (("main", 0, []),), {}, ("main", 0, []),
            [("a" * at, 0, []) for at in range(1, 13)] + [("b", 0, [])]] + OBJECTS
NO_ROW = [None, True, 0, "", (), {}, ("write", "a"), (("write", "a"),), [None], [[]], ["write"], [("write",)],
          [("write", "")], [("write", "a" * 41)], [("write", "A")], [("write", "a", "b")], [["write", "a"]],
          [("read", "a")], [()], [("times", ((0, 1), 0, 1))], [("times", ((0, 1), 0, 1), ())],
          [("times", ((0, 1), 0, 1), [None])], [("times", ((0, 1), 0, 0), [])], [("times", ((0, 1, 0), 0, 1), [])],
          [("times", (0, 1), [])], [("times", ((0, True), 0, 1), [])], [("times", ((0, 1), 0, True), [])],
          [("below", ((0, 1), 0, 1), 2, [])], [("below", ((0, 1), 0, 1), -1, [], [])],
          [("below", ((0, 1), 0, 1), True, [], [])], [("below", ((0, 1), 0, 1), 2, [], ())],
          [("below", ((0, 1), 0, 1), 2, [], [("write", 1)])], [("leaves", ((0, 1), 0, 1), 0, 1, [])],
          [("leaves", ((0, 1), 0, 1), 1, 1, [], [])], [("leaves", ((0, 1), 0, 1), 0, 0, [], [])],
          [("leaves", ((0, 1), 0, 1), -1, 2, [], [])], [("leaves", ((0, 1), 0, 1), True, 2, [], [])],
          [("leaves", ((0, 1), 0, 1), 0, True, [], [])], [("call", "row", [])], [("call", "none", [])],
          [("call", "row", [((0, 1), 0, 1)] * 2)], [("call", "row", (((0, 1), 0, 1),))], [("call", "row")],
          [("call", "row", [(0, 1)])], [("call", "row", [((0, 1, 1), 0, 1)])], [("call", ["row"], [((0, 1), 0, 1)])],
          DEEP, TEXT, PROGRAM]
BODY = [("write", "a"), ("times", ((0, 1), 0, 1), [("write", "ba")])]
STEP = ("spell", (1, 0), 0, [("write", "ba")], [("write", "b"), ("write", "a")])
NO_STEP = [None, True, 0, "", "spell", (), [], {}, list(STEP), STEP[:4], STEP + (0,), ("spelt",) + STEP[1:],
           (0,) + STEP[1:], (["spell"],) + STEP[1:], ("spell", [1, 0]) + STEP[2:], ("spell", (1,)) + STEP[2:],
           ("spell", (1, 1)) + STEP[2:], ("spell", (2, 0)) + STEP[2:], ("spell", (True, 0)) + STEP[2:],
           ("spell", (-1, 0)) + STEP[2:], ("spell", ()) + STEP[2:], ("spell", (0, 0)) + STEP[2:],
           STEP[:2] + (1,) + STEP[3:], STEP[:2] + (-1,) + STEP[3:], STEP[:2] + (False,) + STEP[3:],
           STEP[:2] + (None,) + STEP[3:], STEP[:3] + ((("write", "ba"),), STEP[4]), STEP[:3] + ([("write", "b")], STEP[4]),
           STEP[:4] + ([("write", "b")],), STEP[:4] + ((("write", "ba"),),), STEP[:4] + (None,),
           STEP[:4] + ([("write", "ba"), ("write", "")],), DEEP, DEEP_TUPLE] + OBJECTS
EVENS = CaseTable(Grid([(0, 1)]), [OpenText(1, [("aa", (0, 1))])])
PAIR_TABLE = CaseTable(Grid([(0, 1), (1, 1)]), [OpenText(2, []), PAIR])
LEADS = Program(PROGRAM.parts() + [("one", 1, BODY), ("other", 1, [("times", ((0, 1), 0, 1), [("write", "ab")]),
                                                                   ("write", "a")])])
NO_PLACE = [None, True, 0, "", "main", (), ("main",), ("main", ()), ("main", (0, 0)), ("main", (1,)), ("main", (0, 0, 1)),
            ("main", (0, 2, 0)), ("main", (0, 1, 0, 0, 0)), ("main", (-1,)), ("main", (True,)), ("main", (False,)),
            ("main", (0, False, 0)), ("main", [0]), ("main", (None,)), ("main", ("0",)), ("main", 0), ("main", None),
            ("main", (0,), 0), ["main", (0,)], ("rows", (0,)), ("", (0,)), (None, (0,)), (["main"], (0,)), ("row", (1,)),
            ("row", (0, 1, 0)), ("row", (BIG,)), {}, DEEP, DEEP_TUPLE] + OBJECTS
NO_LIST = [None, True, 0, "", "ab", (), {}, ({},), 7, DEEP_TUPLE] + OBJECTS
NO_INNER = NO_LIST + [[], [GRID] * 2, [GRID] * 4, [GRID, GRID, None], [GRID, GRID, SET], [Grid([])] * 3,
                      [GRID, FINER, Grid([(0, 1)] * 2)], [[GRID]] * 3, DEEP]
NO_SETS = NO_LIST + [[], [SET] * 2, [SET] * 4, [SET, SET, None], [SET, SET, GRID], [all_points(0)] * 3,
                     [SET, ODD, all_points(2)], [[SET]] * 3, DEEP]
NO_TABLES = NO_LIST + [[], [TABLE] * 2, [TABLE] * 4, [TABLE, TABLE, None], [TABLE, TABLE, TEXT],
                       [table_of(OpenText(0, []))] * 3, [TABLE, TABLE, table_of(PAIR)], [[TABLE]] * 3, DEEP]
NO_STRING = [None, True, 0, 7, (), [], ["part a 0", "end"], ("part a 0\nend",), {}, DEEP, DEEP_TUPLE] + OBJECTS
NO_PROGRAM_TEXT = NO_STRING + ["part", "part a 0", "part a 0\n", "end", "part a 0\nend\nend", "part a 0\nwrite\nend",
                               "part a 0\twrite a\nend", "part a 4\nend", "part A 0\nend", "table 0\nlimits\ncase"]
NO_TABLE_TEXT = NO_STRING + ["", "table", "table 0", "table 0\nlimits", "table 0\ncase", "table 0\nlimits\ncase\ncase",
                             "table 1\nlimits 0\ncase", "table 1\nlimits 0 0\ncase", "table 1\nlimits 0 1 1\ncase",
                             "table 4\nlimits 0 1 0 1 0 1 0 1\ncase", "limits\ntable 0\ncase", "table 0\nlimits\ncase A",
                             "table 0\nlimits\ncase a*", "table 0\nlimits\ncase a*n0", "table 0\nlimits\ncase *1",
                             "table 0\nlimits\ncase a*1*1", "table 00\nlimits\ncase", "table 1\nlimits 0 01\ncase",
                             "table 0\nlimits\ncase a*1-0", "table 0\nlimits\ncase a*", "part a 0\nend",
                             "table 0 0\nlimits\ncase", "table 0\nlimits\nend"]
WAY = [(("main", (0, 1, 0)), 0), (("row", (0,)), 1), (("row", (0, 0, 0)), 1)]
NO_WAY = [None, True, 0, "", (), [], {}, tuple(WAY), WAY[:2], WAY[1:], WAY + WAY[2:], WAY[:1] + WAY[2:], WAY[:2] + [None],
          WAY[:2] + [(("row", (0, 0, 0)), 2)], WAY[:2] + [(("row", (0, 0, 0)), -1)], WAY[:2] + [(("row", (0, 0, 0)), True)],
          WAY[:2] + [(("row", (0, 0, 0)), None)], WAY[:2] + [("row", (0, 0, 0), 1)], WAY[:2] + [[("row", (0, 0, 0)), 1]],
          WAY[:2] + [(("row", [0, 0, 0]), 1)], WAY[:2] + [(("row", (0, 0, 1)), 0)], WAY[:2] + [(("row", (False, 0, 0)), 1)],
          WAY[:1] + [(("row", (0,)), 2)] + WAY[2:], WAY[:1] + [(("row", (0,)), BIG)] + WAY[2:],
          [(("main", (0, 1, 0)), 1)] + WAY[1:], [(("main", (0, 1, 0)), False)] + WAY[1:], [(("main", (0,)), 0)] + WAY,
          [(("main", (0, 0, 0)), 0)], [(("main", (0, 1, 1)), 0)], [(("main", ()), 0)], [(("main", (1,)), 0)],
          [((None, (0,)), 0)], [((["main"], (0,)), 0)], DEEP] + OBJECTS
DEED = ("splice", "main", (0, 0), 0, 1, [("write", "yz"), ("call", "row", [((0, 1, 0), 0, 1)])])
NO_DEED = [None, True, 0, "", "drop", (), [], {}, ("drop",), ["drop", "main"], ("drop", "none"), ("drop", None), ("drop", "row"),
           ("drop", ["main"]), ("drop", "main", 0), ("dropped", "main"), (None, "main"), (["drop"], "main"), (0, "main"),
           ("rename", "main"), ("rename", "main", "row"), ("rename", "main", "main"), ("rename", "main", ""),
           ("rename", "main", "Main"), ("rename", "main", "a" * 13), ("rename", "main", None), ("rename", "main", ["a"]),
           ("rename", "none", "a"), ("rename", None, "a"), ("rename", "main", "a", 0), ("add", 0), ("add", 0, None),
           ("add", 3, ("a", 0, [])), ("add", -1, ("a", 0, [])), ("add", True, ("a", 0, [])), ("add", None, ("a", 0, [])),
           ("add", 0, ("main", 0, [])), ("add", 0, ["a", 0, []]), ("add", 0, ("a", 4, [])), ("add", 0, ("a", 0, ())),
           ("add", 0, ("a", 1, [("call", "row", [((0, 1), 0, 1)])])), ("add", 0, ("a", 0, [("call", "a", [])])),
           DEED[:5], DEED + (0,), ("splice", "none") + DEED[2:], ("splice", None) + DEED[2:],
           DEED[:2] + ([0, 0],) + DEED[3:], DEED[:2] + ((0,),) + DEED[3:], DEED[:2] + ((0, 2),) + DEED[3:],
           DEED[:2] + ((1, 0),) + DEED[3:], DEED[:2] + ((False, 0),) + DEED[3:], DEED[:3] + (2,) + DEED[4:],
           DEED[:3] + (-1,) + DEED[4:], DEED[:3] + (False,) + DEED[4:], DEED[:3] + (None,) + DEED[4:],
           DEED[:4] + (2, []), DEED[:4] + (-1, []), DEED[:4] + (True, []), DEED[:5] + ((),), DEED[:5] + (None,),
           DEED[:5] + ([("write", "")],), DEED[:5] + ([("call", "main", [((0, 1, 0), 0, 1)] * 2)],),
           DEED[:5] + ([("call", "row", [((0, 1), 0, 1)])],), DEED[:5] + ([("write", "a")] * 5001,), DEED[:5] + (DEEP,),
           ("out", "main", (), 0, 1), ("out", "main", (), 0, 1, "row"), ("out", "main", (), 0, 1, "main"),
           ("out", "main", (), 0, 1, ""), ("out", "main", (), 0, 1, None), ("out", "main", (), 0, 2, "a"),
           ("out", "main", (), 2, 0, "a"), ("out", "main", (0,), 0, 1, "a"), ("out", "none", (), 0, 1, "a"),
           ("out", "main", (), 0, 1, ["a"]), ("out", "main", (), 0, True, "a"), ("in", "main"), ("in", "main", ()),
           ("in", "main", (0,)), ("in", "main", (0, 0, 0)), ("in", "main", [0, 1, 0]), ("in", "main", (0, True, 0)),
           ("in", "none", (0, 1, 0)), ("in", "main", (0, 1, 0), 0), ("in", ["main"], (0, 1, 0)), DEEP,
           DEEP_TUPLE] + OBJECTS
NO_MARK = NO_WORD + ["", "a" * 13]
SHOP = Workshop(PROGRAM)
SHOP.do(DEED)
SHOP.do(("rename", "main", "all"))
NO_POINT_AT_ALL = [bad for bad in no_point(4) if bad not in ([], [0, 0, 0])] + [[0] * 4]

NUMBER, WORD, FORM, POINT, LIST = (errors.InvalidNumber, errors.InvalidWord, errors.InvalidForm, errors.InvalidPoint,
                                   errors.InvalidList)
NO_UNKNOWN = (NUMBER, NO_COUNT + [1, BIG])
A_MANY, A_COUNT, A_FORM, A_LETTER = (NUMBER, NO_MANY), (NUMBER, NO_COUNT), (FORM, NO_FORM), (WORD, NO_LETTER)
A_TEXT, A_GRID, A_SET = (errors.InvalidText, NO_TEXT), (errors.InvalidGrid, NO_GRID), (errors.InvalidSet, NO_SET)
A_MACHINE, A_WORD = (errors.InvalidAutomaton, NO_AUTOMATON), (WORD, NO_WORD)
A_POINT, A_PAIR = (POINT, no_point(1)), (POINT, no_point(2))
A_MAKER, A_TABLE, A_PROGRAM = ((errors.InvalidMaker, NO_MAKER), (errors.InvalidTable, NO_TABLE),
                               (errors.InvalidProgram, NO_PROGRAM))
A_PLACE, A_DEED, A_SHOP = ((errors.InvalidPlace, NO_PLACE), (errors.InvalidDeed, NO_DEED),
                           (errors.InvalidWorkshop, NO_WORKSHOP))
A_LINES, A_WAY = (errors.InvalidLines, NO_STRING), (errors.InvalidWay, NO_WAY)
NUMBERS = (errors.InvalidSet, NO_SET + [all_points(0), PAIRS])
A_NAME, A_ROW, A_STEP = (errors.UnknownPart, NO_NAME), (LIST, NO_ROW), (errors.InvalidStep, NO_STEP)


def made_automaton(letters, rows, start, ends):
    """Make an automaton with all arguments by position, as the other calls are made."""
    return Automaton(letters, rows, start=start, ends=ends)


def made_maker(letters, rows, start, closing):
    """Make a maker with all arguments by position."""
    return Maker(letters, rows, start=start, closing=closing)


def looped_classes(grid):
    """Go through all classes that the generator yields."""
    return [point for point in each_class(grid)]


def looped_points(points, box):
    """Go through all points that the generator yields."""
    return [point for point in each_point(points, box)]


def done(deed):
    """Do a deed in a new workshop."""
    shop = Workshop(PROGRAM)
    shop.do(deed)
    return shop.log() + [shop.program]


def done_together(deeds, keep):
    """Do deeds together in a new workshop, with all arguments by position."""
    shop = Workshop(PROGRAM)
    made = shop.together(deeds, keep=keep)
    return shop.log() + [shop.program, made]


def marked(word, place):
    """Mark a statement in a new workshop."""
    shop = Workshop(PROGRAM)
    shop.mark(word, place)
    return shop.marks()


# (function, good arguments, for each argument its error and values that are wrong for it)
CALLS = [
    (is_form, [1, (0, 7)], [A_MANY]),
    (value, [(3, 1, 2), [10, 100]], [A_FORM, A_PAIR]),
    (inserted, [(1, 2, 3), 1, [(5, 1), (0, 4)]], [A_FORM, A_MANY, (LIST, no_forms(1, 2))]),
    (normal, [1, [("ab", (1, 0)), ("abab", (1, 1))]], [A_MANY, (errors.InvalidPieces, NO_PIECES)]),
    (is_normal, [1, [("ab", (0, 1))]], [A_MANY]),
    (OpenText, [1, [("ab", (1, 0)), ("abab", (1, 1))]], [A_MANY, (errors.InvalidPieces, NO_PIECES)]),
    (size, [PAIR], [A_TEXT]),
    (spread, [PAIR], [A_TEXT]),
    (unknowns, [PAIR], [A_TEXT]),
    (written, [PAIR, [2, 1]], [A_TEXT, A_PAIR]),
    (text_letter, [PAIR, [2, 1], 8], [A_TEXT, A_PAIR, (NUMBER, NO_COUNT + [9, BIG])]),
    (length, [PAIR], [A_TEXT]),
    (letters, [PAIR, "b"], [A_TEXT, A_LETTER]),
    (joined, [PAIR, PAIR], [A_TEXT, A_TEXT]),
    (repeated, [PAIR, 3], [A_TEXT, A_COUNT]),
    (replaced, [PAIR, 1, [(1, 2), (0, 0)]], [A_TEXT, A_MANY, (LIST, no_forms(1, 2))]),
    (decisive, [PAIR, PAIR], [A_TEXT, A_TEXT]),
    (parting, [PAIR, OpenText(2, [])], [A_TEXT, A_TEXT]),
    (later, [TEXT, 0, 2], [A_TEXT, NO_UNKNOWN, A_COUNT]),
    (earlier, [TEXT, 0], [A_TEXT, NO_UNKNOWN]),
    (thinned, [TEXT, 0, 2], [A_TEXT, NO_UNKNOWN, (NUMBER, NO_COUNT + [0])]),
    (Grid, [[(1, 2), (0, 3)]], [(LIST, NO_LIMITS)]),
    (classes, [GRID], [A_GRID]),
    (looped_classes, [GRID], [A_GRID]),
    (class_of, [GRID, [7]], [A_GRID, A_POINT]),
    (place_in_class, [GRID, [7]], [A_GRID, A_POINT]),
    (class_forms, [GRID, [7]], [A_GRID, A_POINT]),
    (refines, [FINER, GRID], [A_GRID, A_GRID]),
    (meeting, [FINER, GRID], [A_GRID, A_GRID]),
    (within, [GRID, [2], FINER], [A_GRID, A_POINT, A_GRID]),
    (led_forms, [FINER, [4], GRID], [A_GRID, A_POINT, A_GRID]),
    (PointSet, [GRID, [[5], [0]]], [A_GRID, (LIST, NO_POINTS)]),
    (all_points, [2], [A_MANY]),
    (no_points, [2], [A_MANY]),
    (points_from, [1, 0, 3], [A_MANY, NO_UNKNOWN, A_COUNT]),
    (points_leaving, [1, 0, 3, 4], [A_MANY, NO_UNKNOWN, A_COUNT, (NUMBER, NO_COUNT + [0, 1, 2, 3])]),
    (one_point, [[4, 5]], [(POINT, NO_POINT_AT_ALL)]),
    (other_points, [ODD], [A_SET]),
    (first_parting, [ODD, SET], [A_SET, A_SET]),
    (first_point, [ODD], [A_SET]),
    (fixed_points, [ODD, 0, 3], [A_SET, NO_UNKNOWN, A_COUNT]),
    (some_points, [ODD, 0], [A_SET, NO_UNKNOWN]),
    (every_points, [ODD, 0], [A_SET, NO_UNKNOWN]),
    (led_points, [PAIRS, 1, [(0, 3), (0, 1)]], [A_SET, A_MANY, (LIST, no_forms(1, 2))]),
    (led_grid, [PAIRS, 1, [(0, 3), (0, 1)]], [A_SET, A_MANY, (LIST, no_forms(1, 2))]),
    (how_many_points, [PAIRS], [A_SET]),
    (how_many_in, [PAIRS, [5, 10]], [A_SET, A_PAIR]),
    (how_many_ahead, [PAIRS, [5, 10], [3, 4]], [A_SET, A_PAIR, A_PAIR]),
    (point_in, [PAIRS, [5, 10], 8], [A_SET, A_PAIR, (NUMBER, NO_COUNT + [14, BIG])]),
    (looped_points, [PAIRS, [5, 10]], [A_SET, A_PAIR]),
    (made_automaton, ["a", [[1, 0], [0, 1]], 1, [0, 1]],
     [(WORD, NO_ALPHABET), (LIST, NO_ROWS), (NUMBER, NO_STATE), (LIST, NO_ENDS)]),
    (moved, [AUTOMATON, "aba"], [A_MACHINE, A_WORD]),
    (rounds, [AUTOMATON, "aba"], [A_MACHINE, A_WORD]),
    (state_behind, [AUTOMATON, "aba"], [A_MACHINE, A_WORD]),
    (accepts, [AUTOMATON, "aba"], [A_MACHINE, A_WORD]),
    (parting_word, [AUTOMATON, Automaton("", [[0]], ends=[0])], [A_MACHINE, A_MACHINE]),
    (least_automaton, [AUTOMATON], [A_MACHINE]),
    (state_grid, [TEXT, AUTOMATON], [A_TEXT, A_MACHINE]),
    (state_sets, [TEXT, AUTOMATON], [A_TEXT, A_MACHINE]),
    (accepted, [TEXT, AUTOMATON], [A_TEXT, A_MACHINE]),
    (state_at, [TEXT, AUTOMATON, [BIG]], [A_TEXT, A_MACHINE, A_POINT]),
    (set_automaton, [ODD, "b"], [(errors.InvalidSet, NO_SET + [all_points(0), PAIRS]), A_LETTER]),
    (made_maker, ["a", [[(1, "", False), (0, "b", True)], [(0, "x", False), (0, "a", True)]], 1, ["", "a"]],
     [(WORD, NO_ALPHABET), (LIST, NO_ENTRIES), (NUMBER, NO_STATE), (LIST, NO_CLOSING)]),
    (maker_states, [MAKER], [A_MAKER]),
    (made_word, [MAKER, "aaabaac"], [A_MAKER, A_WORD]),
    (parting_input, [MAKER, Maker("", [[(0, "", True)]], closing=[""])], [A_MAKER, A_MAKER]),
    (maker_behind, [MAKER, MAKER], [A_MAKER, A_MAKER]),
    (asked_behind, [MAKER, AUTOMATON], [A_MAKER, A_MACHINE]),
    (made_table, [TEXT, MAKER], [A_TEXT, A_MAKER]),
    (CaseTable, [GRID, [TEXT, TEXT, OpenText(1, [])]], [A_GRID, (LIST, NO_TEXTS)]),
    (text_at, [PAIR_TABLE, [2, 1]], [A_TABLE, A_PAIR]),
    (table_written, [PAIR_TABLE, [2, 1]], [A_TABLE, A_PAIR]),
    (table_length, [PAIR_TABLE, [2, BIG]], [A_TABLE, A_PAIR]),
    (table_letter, [TABLE, [4], 3], [A_TABLE, A_POINT, (NUMBER, NO_COUNT + [4, BIG])]),
    (texts_on, [EVENS, FINER], [A_TABLE, A_GRID]),
    (table_of, [PAIR], [A_TEXT]),
    (joined_tables, [EVENS, TABLE], [A_TABLE, A_TABLE]),
    (table_at, [PAIR_TABLE, 1, [((0, 1), 0, 2), ((0, 1), 1, 1)]], [A_TABLE, A_MANY, (LIST, no_amounts(1, 2))]),
    (chosen, [ODD, EVENS, TABLE], [A_SET, A_TABLE, A_TABLE]),
    (parting_tables, [EVENS, TABLE], [A_TABLE, A_TABLE]),
    (agreeing_points, [EVENS, TABLE], [(errors.InvalidTable, NO_TABLE + [PAIR_TABLE])] * 2),
    (is_amount, [1, ((0, 7), 1, 2)], [A_MANY]),
    (amount_value, [((3, 1, 2), 4, 2), [10, 100]],
     [(errors.InvalidAmount, no_amount(1) + [((0,) * 5, 0, 1), ((), 0, 1)]), A_PAIR]),
    (Program, [LEADS.parts()], [(errors.InvalidProgram, NO_PARTS)]),
    (run, [PROGRAM, "main", [3, 1]], [A_PROGRAM, A_NAME, A_PAIR]),
    (run_length, [PROGRAM, "main", [BIG, 1]], [A_PROGRAM, A_NAME, A_PAIR]),
    (run_letters, [PROGRAM, "main", [BIG, 1], "b"], [A_PROGRAM, A_NAME, A_PAIR, A_LETTER]),
    (run_letter, [PROGRAM, "main", [3, 1], 3], [A_PROGRAM, A_NAME, A_PAIR, (NUMBER, NO_COUNT + [4, BIG])]),
    (run_part, [PROGRAM, "main", [3, 1], 1, 3],
     [A_PROGRAM, A_NAME, A_PAIR, (NUMBER, NO_COUNT + [5, BIG]), (NUMBER, NO_COUNT + [0, 5, BIG])]),
    (part_grid, [PROGRAM, "main"], [A_PROGRAM, A_NAME]),
    (compiled, [PROGRAM, "main"], [A_PROGRAM, A_NAME]),
    (same_parts, [LEADS, "one", "other"], [A_PROGRAM, A_NAME, A_NAME]),
    (parting_parts, [LEADS, "one", "row"], [A_PROGRAM, A_NAME, A_NAME]),
    (program_of, [PAIR_TABLE], [A_TABLE]),
    (is_step, [PROGRAM, 1, BODY, STEP], [A_PROGRAM, A_MANY, A_ROW]),
    (stepped, [PROGRAM, 1, BODY, STEP], [A_PROGRAM, A_MANY, A_ROW, A_STEP]),
    (derivation, [LEADS, "one", "other"], [A_PROGRAM, A_NAME, A_NAME]),
    (reached, [PROGRAM, "main", ("row", (0,))], [A_PROGRAM, A_NAME, A_PLACE]),
    (times_reached, [PROGRAM, "main", ("row", (0, 0, 0)), [BIG, 1]], [A_PROGRAM, A_NAME, A_PLACE, A_PAIR]),
    (reach_grid, [PROGRAM, "main"], [A_PROGRAM, A_NAME]),
    (never_reached, [PROGRAM, "main"], [A_PROGRAM, A_NAME]),
    (one_way, [PROGRAM, "main"], [A_PROGRAM, A_NAME]),
    (trimmed, [PROGRAM, "main"], [A_PROGRAM, A_NAME]),
    (run_state, [PROGRAM, "main", [BIG, 1], AUTOMATON], [A_PROGRAM, A_NAME, A_PAIR, A_MACHINE]),
    (run_made_length, [PROGRAM, "main", [BIG, 1], MAKER], [A_PROGRAM, A_NAME, A_PAIR, A_MAKER]),
    (machine_grid, [PROGRAM, "main", AUTOMATON], [A_PROGRAM, A_NAME, A_MACHINE]),
    (state_points, [PROGRAM, "main", AUTOMATON], [A_PROGRAM, A_NAME, A_MACHINE]),
    (accepted_points, [PROGRAM, "main", AUTOMATON], [A_PROGRAM, A_NAME, A_MACHINE]),
    (checked, [PROGRAM, "main", AUTOMATON], [A_PROGRAM, A_NAME, A_MACHINE]),
    (gathered_grid, [GRID, [FINER, GRID, Grid([(0, 1)])]], [A_GRID, (LIST, NO_INNER)]),
    (gathered_points, [GRID, [ODD, SET, ODD]], [A_GRID, (LIST, NO_SETS)]),
    (gathered_table, [GRID, [TABLE, EVENS, EVENS]], [A_GRID, (LIST, NO_TABLES)]),
    (accepted_table, [TABLE, AUTOMATON], [A_TABLE, A_MACHINE]),
    (made_of_table, [TABLE, MAKER], [A_TABLE, A_MAKER]),
    (length_points, [TABLE, ODD], [A_TABLE, NUMBERS]),
    (letter_points, [TABLE, "a", ODD], [A_TABLE, A_LETTER, NUMBERS]),
    (program_text, [PROGRAM], [A_PROGRAM]),
    (line_of, [PROGRAM, ("main", (0, 1, 0))], [A_PROGRAM, A_PLACE]),
    (place_at, [PROGRAM, 3], [A_PROGRAM, (NUMBER, NO_COUNT + [0, 13, BIG])]),
    (read_program, [program_text(PROGRAM)], [(errors.InvalidLines, NO_PROGRAM_TEXT)]),
    (wrong_line, ["part a 0\nwrite\nend"], [A_LINES]),
    (faults, ["part a 0\nwrite\ntimes n0"], [A_LINES]),
    (mended, ["part a 0\nwrite\ntimes 7"], [A_LINES]),
    (table_text, [PAIR_TABLE], [A_TABLE]),
    (read_table, [table_text(PAIR_TABLE)], [(errors.InvalidLines, NO_TABLE_TEXT)]),
    (way_to, [PROGRAM, "main", [3, 1], 3], [A_PROGRAM, A_NAME, A_PAIR, (NUMBER, NO_COUNT + [4, BIG])]),
    (number_of_way, [PROGRAM, "main", [3, 1], WAY], [A_PROGRAM, A_NAME, A_PAIR, A_WAY]),
    (written_by, [PROGRAM, "main", [3, 1], ("row", (0,)), 3],
     [A_PROGRAM, A_NAME, A_PAIR, A_PLACE, (NUMBER, NO_COUNT + [5, BIG])]),
    (is_deed, [PROGRAM, DEED], [A_PROGRAM]),
    (changed, [PROGRAM, DEED], [A_PROGRAM, A_DEED]),
    (followed, [PROGRAM, DEED, ("main", (0, 1, 0))], [A_PROGRAM, A_DEED, A_PLACE]),
    (came_from, [PROGRAM, DEED, ("main", (0, 1, 0))],
     [A_PROGRAM, A_DEED, (errors.InvalidPlace, [bad for bad in NO_PLACE if bad != ("main", (0, 0, 1))])]),
    (may_change, [PROGRAM, DEED], [A_PROGRAM, A_DEED]),
    (parts_changed, [PROGRAM, DEED], [A_PROGRAM, A_DEED]),
    (Workshop, [PROGRAM], [A_PROGRAM]),
    (done, [DEED], [A_DEED]),
    (done_together, [[DEED, ("rename", "main", "all")], False],
     [(LIST, [bad for bad in NO_LIST if bad != []]), (errors.InvalidFlag, [None, 0, 1, "", "True", [], (), {}, DEEP] + OBJECTS)]),
    (marked, ["here", ("main", (0, 1, 0))], [(WORD, NO_MARK), A_PLACE]),
    (born, [SHOP, ("all", (0, 0, 0))],
     [A_SHOP, (errors.InvalidPlace, [bad for bad in NO_PLACE] + [("main", (0,))])]),
    (deed_of, [SHOP, "all", [1, 1], 1], [A_SHOP, (errors.UnknownPart, NO_NAME + ["main"]), A_PAIR,
                                         (NUMBER, NO_COUNT + [4, BIG])]),
    (shares, [SHOP, "all", [1, BIG]], [A_SHOP, (errors.UnknownPart, NO_NAME + ["main"]), A_PAIR]),
    (parting_since, [SHOP, "all", 0], [A_SHOP, (errors.UnknownPart, NO_NAME + ["main"]), (NUMBER, NO_COUNT + [3, BIG])]),
]
