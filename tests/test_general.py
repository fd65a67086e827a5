"""General rules [1] to [4]: the interface, errors in order, lists that belong to the caller."""

import copy
import importlib
import inspect
import unittest

from calls import CALLS
from helpers import GRID, MAKER, OBJECTS, PROGRAM, TABLE, raised, same_list_twice, spoil
from openloops.automata import Automaton
from openloops.errors import InvalidFlag
from openloops.grids import Grid
from openloops.pointsets import PointSet, all_points
from openloops.programs import Program
from openloops.texts import OpenText
from openloops.workshop import Workshop

FUNCTIONS = {
    "forms": {"is_form": "many, value", "value": "form, point", "inserted": "form, many, forms"},
    "pieces": {"normal": "many, pieces", "is_normal": "many, value"},
    "texts": {"size": "text", "spread": "text", "unknowns": "text", "written": "text, point",
              "text_letter": "text, point, at", "length": "text", "letters": "text, letter", "joined": "one, other",
              "repeated": "text, times", "replaced": "text, many, forms"},
    "alike": {"decisive": "one, other", "parting": "one, other"},
    "shifts": {"later": "text, at, by", "earlier": "text, at", "thinned": "text, at, by"},
    "grids": {"classes": "grid", "each_class": "grid", "class_of": "grid, point", "place_in_class": "grid, point",
              "class_forms": "grid, point", "refines": "one, other", "meeting": "one, other",
              "within": "grid, point, finer", "led_forms": "finer, point, grid"},
    "pointsets": {"all_points": "many", "no_points": "many", "points_from": "many, at, least",
                  "points_leaving": "many, at, number, by", "one_point": "point", "other_points": "points",
                  "first_parting": "one, other"},
    "pointviews": {"first_point": "points", "fixed_points": "points, at, number", "some_points": "points, at",
                   "every_points": "points, at", "led_points": "points, many, forms",
                   "led_grid": "points, many, forms"},
    "pointcounts": {"how_many_points": "points", "how_many_in": "points, box", "how_many_ahead": "points, box, point",
                    "point_in": "points, box, number", "each_point": "points, box"},
    "automata": {"moved": "automaton, word", "rounds": "automaton, word", "state_behind": "automaton, word",
                 "accepts": "automaton, word"},
    "machines": {"parting_word": "one, other", "least_automaton": "automaton"},
    "accepted": {"state_grid": "text, automaton", "state_sets": "text, automaton", "accepted": "text, automaton",
                 "state_at": "text, automaton, point", "set_automaton": "points, letter"},
    "makers": {"maker_states": "maker", "made_word": "maker, word"},
    "making": {"parting_input": "one, other", "maker_behind": "one, other", "asked_behind": "maker, automaton"},
    "maketables": {"made_table": "text, maker"},
    "tableviews": {"text_at": "table, point", "table_written": "table, point", "table_length": "table, point",
                   "table_letter": "table, point, at", "texts_on": "table, grid", "table_of": "text",
                   "joined_tables": "one, other", "table_at": "table, many, amounts", "chosen": "points, one, other",
                   "parting_tables": "one, other", "agreeing_points": "one, other"},
    "programs": {"is_amount": "many, value", "amount_value": "amount, point"},
    "running": {"run": "program, name, point", "run_length": "program, name, point",
                "run_letters": "program, name, point, letter", "run_letter": "program, name, point, at",
                "run_part": "program, name, point, low, high"},
    "compiled": {"part_grid": "program, name", "compiled": "program, name", "same_parts": "program, one, other",
                 "parting_parts": "program, one, other", "program_of": "table"},
    "rewriting": {"is_step": "program, many, body, value", "stepped": "program, many, body, step"},
    "derivations": {"derivation": "program, one, other"},
    "reached": {"reached": "program, name, place", "times_reached": "program, name, place, point",
                "reach_grid": "program, name", "never_reached": "program, name", "one_way": "program, name",
                "trimmed": "program, name"},
    "checked": {"run_state": "program, name, point, automaton", "run_made_length": "program, name, point, maker",
                "machine_grid": "program, name, automaton", "state_points": "program, name, automaton",
                "accepted_points": "program, name, automaton", "checked": "program, name, automaton"},
    "gathering": {"gathered_grid": "grid, inner", "gathered_points": "grid, sets", "gathered_table": "grid, tables",
                  "accepted_table": "table, automaton", "made_of_table": "table, maker"},
    "lengths": {"length_points": "table, points", "letter_points": "table, letter, points"},
    "printer": {"program_text": "program", "line_of": "program, place", "place_at": "program, line"},
    "reader": {"read_program": "text", "wrong_line": "text"},
    "mending": {"faults": "text", "mended": "text"},
    "tabletexts": {"table_text": "table", "read_table": "text"},
    "tracing": {"way_to": "program, name, point, at", "number_of_way": "program, name, point, way",
                "written_by": "program, name, point, place, at"},
    "deeds": {"is_deed": "program, value", "changed": "program, deed", "followed": "program, deed, place",
              "came_from": "program, deed, place", "may_change": "program, deed", "parts_changed": "program, deed"},
    "origins": {"born": "workshop, place", "deed_of": "workshop, name, point, at", "shares": "workshop, name, point",
                "parting_since": "workshop, name, since"},
}
CLASSES = {
    "texts": {"OpenText": ("many, pieces", ["many", "pieces", "__eq__"])},
    "grids": {"Grid": ("limits", ["many", "limits", "__eq__"])},
    "pointsets": {"PointSet": ("grid, points", ["many", "grid", "classes", "empty", "finite", "__contains__", "__eq__",
                                                "__and__", "__or__", "__sub__"])},
    "automata": {"Automaton": ("letters, rows, *, start=0, ends", ["letters", "rows", "start", "ends", "__eq__"])},
    "makers": {"Maker": ("letters, rows, *, start=0, closing", ["letters", "rows", "start", "closing", "__eq__"])},
    "tables": {"CaseTable": ("grid, texts", ["many", "grid", "texts", "__eq__"])},
    "programs": {"Program": ("parts", ["parts", "__eq__"])},
    "workshop": {"Workshop": ("program", ["do", "undo", "redo", "program", "many_deeds", "log", "programs", "copy",
                                          "__eq__", "mark", "marks", "trial", "together"])},
}


class Interface(unittest.TestCase):
    def test_functions_are_defined_where_they_are_listed(self):
        for module, table in FUNCTIONS.items():
            for name, names in table.items():
                function = getattr(importlib.import_module("openloops." + module), name)
                self.assertTrue(inspect.isfunction(function), name)
                self.assertEqual(function.__module__, "openloops." + module)
                self.assertEqual(str(inspect.signature(function)), f"({names})", name)

    def test_all_of_them_stand_in_the_table_of_calls(self):
        names = {(function.__module__, function.__name__) for function, _, _ in CALLS}
        for module, table in FUNCTIONS.items():
            for name in table:
                if name not in ["each_class", "each_point"]:
                    self.assertIn(("openloops." + module, name), names)

    def test_classes_define_their_methods_themselves(self):
        for module, table in CLASSES.items():
            for name, (names, methods) in table.items():
                made = getattr(importlib.import_module("openloops." + module), name)
                self.assertTrue(inspect.isclass(made), name)
                self.assertEqual(made.__module__, "openloops." + module)
                self.assertEqual(str(inspect.signature(made)), f"({names})", name)
                for method in methods:
                    self.assertIn(method, vars(made), name)

    def test_generators_are_generators(self):
        for module, name in [("grids", "each_class"), ("pointcounts", "each_point")]:
            function = getattr(importlib.import_module("openloops." + module), name)
            self.assertTrue(inspect.isgeneratorfunction(function), name)

    def test_arguments_by_name(self):
        for function, good, _ in CALLS:
            names = list(inspect.signature(function).parameters)
            self.assertEqual(function(**dict(zip(names, good))), function(*good), function.__name__)


class Errors(unittest.TestCase):
    def check(self, function, arguments, kind, bad):
        error = raised(lambda: function(*arguments))
        note = f"{function.__name__} {str(bad)[:80]}"
        self.assertIs(type(error), kind, note)
        self.assertIs(error.value, bad, note)

    def test_good_arguments_raise_nothing(self):
        for function, good, _ in CALLS:
            self.assertIsNone(raised(lambda: function(*good)), function.__name__)

    def test_each_wrong_argument_alone(self):
        for function, good, wrong in CALLS:
            for at, (kind, values) in enumerate(wrong):
                for bad in values:
                    self.check(function, good[:at] + [bad] + good[at + 1:], kind, bad)

    def test_the_first_wrong_argument_of_several(self):
        for function, good, wrong in CALLS:
            for at, (kind, values) in enumerate(wrong):
                for turn, bad in enumerate(values):
                    behind = [worse[turn % len(worse)] for _, worse in wrong[at + 1:]]
                    arguments = good[:at] + [bad] + behind
                    self.check(function, arguments + good[len(arguments):], kind, bad)

    def test_booleans_are_no_numbers(self):
        for function, good, wrong in CALLS:
            for at, (kind, _) in enumerate(wrong):
                for bad in [True, False] if kind is not InvalidFlag else []:
                    self.check(function, good[:at] + [bad] + good[at + 1:], kind, bad)


class Lists(unittest.TestCase):
    def test_arguments_are_not_changed(self):
        for function, good, _ in CALLS:
            before = copy.deepcopy(good)
            function(*good)
            self.assertEqual(good, before, function.__name__)

    def test_arguments_of_calls_that_fail_are_not_changed(self):
        for function, good, wrong in CALLS:
            for at, (_, values) in enumerate(wrong):
                for bad in values:
                    arguments = good[:at] + [bad] + good[at + 1:]
                    before = copy.deepcopy(arguments)
                    raised(lambda: function(*arguments))
                    self.assertEqual(arguments, before, function.__name__)

    def test_no_list_twice_and_new_lists_each_time(self):
        for function, good, _ in CALLS:
            first = function(*good)
            kept = copy.deepcopy(first)
            self.assertFalse(same_list_twice(first), function.__name__)
            spoil(first)
            self.assertEqual(function(*good), kept, function.__name__)

    def test_results_hold_no_list_of_the_arguments(self):
        for function, good, _ in CALLS:
            given = copy.deepcopy(good)
            result = function(*given)
            kept = copy.deepcopy(result)
            for argument in given:
                if isinstance(argument, list):
                    spoil(argument)
            self.assertEqual(result, kept, function.__name__)

    def test_methods_return_new_lists(self):
        for made in OBJECTS:
            for name in ["pieces", "limits", "classes", "rows", "ends", "closing", "texts", "parts", "log",
                         "marks"]:
                if hasattr(made, name):
                    kept = copy.deepcopy(getattr(made, name)())
                    self.assertFalse(same_list_twice(kept))
                    spoil(getattr(made, name)())
                    self.assertEqual(getattr(made, name)(), kept, name)

    def test_equal_answers_to_equal_calls(self):
        for function, good, _ in CALLS:
            self.assertEqual(function(*copy.deepcopy(good)), function(*good), function.__name__)


class Equal(unittest.TestCase):
    def test_objects_are_equal_to_no_other_objects(self):
        made = [OpenText(1, []), OpenText(2, []), Grid([]), Grid([(0, 1)]), all_points(0), all_points(1),
                Automaton("", [[0]], ends=[]), MAKER, TABLE, PROGRAM, Program([]), Workshop(PROGRAM), None, True, 0, "", [], (), {}]
        for at, one in enumerate(made):
            for place, other in enumerate(made):
                self.assertEqual(one == other, at == place)
                self.assertEqual(one != other, at != place)

    def test_a_set_and_what_it_consists_of(self):
        points = PointSet(GRID, [[1]])
        self.assertFalse(points == points.grid())
        self.assertFalse(points == points.classes())


if __name__ == "__main__":
    unittest.main()
