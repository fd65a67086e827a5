"""Deeds, points [54] to [56]."""

import random
import unittest

from changing import Labels, calling_program, label_parts, places_of_labels, plain_program, plainly_done, random_deed
from helpers import BIG, SECONDS, by_sum, cube, lists_within, raised, seconds
from openloops.compiled import compiled
from openloops.deeds import came_from, changed, followed, is_deed, may_change, parts_changed
from openloops.errors import InvalidDeed, InvalidPlace, OpenInOpen, TooLong, TooMany
from openloops.moves import name_ahead, move_of
from openloops.programs import Program
from openloops.running import run, run_length
from walking import N, all_places, nest, under

LOW = ("low", 1, [("times", N, [("write", "ab")])])
PAIR = Program([LOW, ("main", 1, [("call", "low", [((0, 1), 0, 2)]), ("write", "c")])])


def cases(how_many):
    """Yield random programs and deeds, with the labels of both programs; the second program may be none."""
    for seed in range(how_many):
        chance = random.Random(seed)
        program = calling_program(seed, [chance.randint(0, 2) for _ in range(3)])
        for _ in range(4):
            labels, origins = Labels(), {}
            parts = label_parts(labels, program)
            deed = random_deed(chance, program)
            made = plainly_done(labels, origins, parts, deed)
            known = deed[-1] if deed[0] in ("rename", "out") else None
            taken = known in [name for name, _, _ in program.parts()]
            yield program, deed, parts, made, origins, None if taken else plain_program(made)


class Deeds(unittest.TestCase):
    def test_each_kind_does_what_is_told(self):
        told = {}
        for program, deed, _, _, _, other in cases(400):
            self.assertEqual(is_deed(program, deed), other is not None, deed)
            told.setdefault(deed[0], set()).add(other is not None)
            if other is None:
                error = raised(lambda: changed(program, deed))
                self.assertIsInstance(error, InvalidDeed)
                self.assertIs(error.value, deed)
            else:
                self.assertEqual(changed(program, deed), other)
        both = {kind: {True, False} for kind in ["rename", "add", "drop", "out", "in"]}
        self.assertEqual(told, {"splice": {True}, **both})

    def test_places_are_followed_and_lead_back(self):
        for program, deed, parts, made, origins, other in cases(300):
            if other is None:
                continue
            before, behind = places_of_labels(parts), places_of_labels(made)
            for label, place in before.items():
                self.assertEqual(followed(program, deed, place), behind.get(label))
            for label, place in behind.items():
                self.assertEqual(came_from(program, deed, place), before.get(origins.get(label, label)))
            statements = dict(all_places(other))
            for place, statement in all_places(program):
                there = followed(program, deed, place)
                if there is not None:
                    self.assertEqual(statements[there][0], statement[0])
                    self.assertEqual(came_from(program, deed, there), place)

    def test_silent_deeds_change_nothing_of_what_is_written(self):
        for program, deed, _, _, _, other in cases(300):
            if other is not None and deed[0] != "splice":
                self.check_same(program, other, deed, [name for name, _, _ in program.parts()])
                self.assertEqual([may_change(program, deed), parts_changed(program, deed)], [[], []])

    def check_same(self, program, other, deed, names):
        for name in names:
            many = [part[1] for part in program.parts() if part[0] == name][0]
            now = deed[2] if deed[0] == "rename" and deed[1] == name else name
            if deed[0] != "drop" or deed[1] != name:
                for point in cube(many, [0, 5, 2][many]):
                    self.assertEqual(run_length(program, name, point), run_length(other, now, point))
                    if run_length(program, name, point) < 500:
                        self.assertEqual(run(program, name, point), run(other, now, point))

    def test_the_parts_whose_words_a_splice_changes_are_those_that_are_told(self):
        told = []
        for program, deed, _, _, _, other in cases(400):
            if other is None or deed[0] != "splice":
                continue
            names = [name for name, _, _ in program.parts() if deed[1] in under(program, name)]
            self.assertEqual(may_change(program, deed), names)
            self.check_same(program, other, deed, [name for name, _, _ in program.parts() if name not in names])
            if raised(lambda: [compiled(each, name) for name in names for each in (program, other)]) is not None:
                self.assertIsNotNone(raised(lambda: parts_changed(program, deed)))
                continue
            found = parts_changed(program, deed)
            told.append(len(found))
            self.assertEqual([name for name, _ in found], [name for name in names if name in dict(found)])
            for name in names:
                many = [part[1] for part in program.parts() if part[0] == name][0]
                point = dict(found).get(name)
                for small in by_sum(many, sum(point) if point is not None else 4):
                    if small == point:
                        self.assertNotEqual(run(program, name, small), run(other, name, small))
                        break
                    self.assertEqual(run(program, name, small), run(other, name, small))
        self.assertEqual(set(told), {0, 1, 2, 3})


class Splice(unittest.TestCase):
    def test_rows_of_no_statements_that_are_taken_or_put(self):
        same = ("splice", "main", (), 1, 0, [])
        self.assertEqual(changed(PAIR, same), PAIR)
        self.assertEqual([may_change(PAIR, same), parts_changed(PAIR, same)], [["main"], []])
        nothing = changed(PAIR, ("splice", "low", (0, 0), 0, 1, []))
        self.assertEqual(nothing.parts()[0], ("low", 1, [("times", N, [])]))
        self.assertEqual(changed(nothing, ("splice", "low", (0, 0), 0, 0, [("write", "ab")])), PAIR)
        behind = changed(PAIR, ("splice", "main", (), 2, 0, [("write", "d")]))
        self.assertEqual(behind.parts()[1][2][2], ("write", "d"))
        self.assertFalse(is_deed(PAIR, ("splice", "main", (), 3, 0, [])))
        self.assertFalse(is_deed(PAIR, ("splice", "main", (), 1, 2, [])))

    def test_rows_within_tests_and_loops(self):
        program = Program([("main", 1, [("below", N, 2, [("write", "a")], [("times", N, [("write", "b"), ("write", "c")])])])])
        deed = ("splice", "main", (0, 1, 0, 0), 0, 1, [("write", "x"), ("write", "y")])
        self.assertEqual(changed(program, deed).parts()[0][2][0][4], [("times", N, [("write", letter) for letter in "xyc"])])
        self.assertEqual(followed(program, deed, ("main", (0, 1, 0, 0, 1))), ("main", (0, 1, 0, 0, 2)))
        self.assertIsNone(followed(program, deed, ("main", (0, 1, 0, 0, 0))))
        self.assertEqual(followed(program, deed, ("main", (0, 0, 0))), ("main", (0, 0, 0)))
        self.assertIsNone(came_from(program, deed, ("main", (0, 1, 0, 0, 1))))
        self.assertEqual(came_from(program, deed, ("main", (0, 1, 0, 0, 2))), ("main", (0, 1, 0, 0, 1)))
        out = ("splice", "main", (), 0, 1, [])
        for path in [(0,), (0, 0, 0), (0, 1, 0), (0, 1, 0, 0, 1)]:
            self.assertIsNone(followed(program, out, ("main", path)))

    def test_statements_that_are_put_are_new_even_where_they_are_like_the_old_ones(self):
        deed = ("splice", "main", (), 1, 1, [("write", "c")])
        self.assertEqual(changed(PAIR, deed), PAIR)
        self.assertIsNone(followed(PAIR, deed, ("main", (1,))))
        self.assertIsNone(came_from(PAIR, deed, ("main", (1,))))

    def test_weights_depths_and_calls(self):
        full = Program([("main", 0, [("write", "a")] * 5000), ("top", 0, [])])
        self.assertFalse(is_deed(full, ("splice", "main", (), 0, 0, [("write", "b")])))
        self.assertTrue(is_deed(full, ("splice", "main", (), 0, 1, [("write", "b")])))
        self.assertFalse(is_deed(full, ("splice", "top", (), 0, 0, [("call", "main", [])])))
        self.assertFalse(is_deed(full, ("splice", "main", (), 0, 5000, [("call", "top", [])])))
        self.assertFalse(is_deed(full, ("splice", "top", (), 0, 0, [("call", "top", [])])))
        deep = Program([("main", 0, nest(11, ("write", "a"))), ("top", 0, [("times", ((2,), 0, 1), [])])])
        path = (0, 0) * 10
        self.assertTrue(is_deed(deep, ("splice", "main", path, 0, 1, nest(2, ("write", "b")))))
        self.assertFalse(is_deed(deep, ("splice", "main", path, 0, 1, nest(3, ("write", "b")))))
        self.assertFalse(is_deed(deep, ("splice", "top", (0, 0), 0, 0, [("call", "main", [])])))
        self.assertTrue(is_deed(deep, ("splice", "top", (), 0, 0, [("call", "main", [])])))

    def test_parts_that_call_a_changed_part_are_looked_at_too(self):
        low = ("low", 0, [("write", "a")])
        heavy = Program([low, ("top", 0, [("call", "low", [])] * 2500)])
        self.assertFalse(is_deed(heavy, ("splice", "low", (), 0, 0, [("write", "b")])))
        self.assertTrue(is_deed(heavy, ("splice", "low", (), 0, 1, [("write", "b")])))


class Parts(unittest.TestCase):
    def test_a_part_that_others_call_is_renamed_in_their_calls(self):
        program = Program([LOW, ("main", 1, [("times", N, [("call", "low", [N])])])])
        other = changed(program, ("rename", "low", "high"))
        self.assertEqual(other.parts(), [("high", 1, LOW[2]), ("main", 1, [("times", N, [("call", "high", [N])])])])
        self.assertEqual(followed(program, ("rename", "low", "high"), ("low", (0, 0, 0))), ("high", (0, 0, 0)))
        self.assertEqual(came_from(program, ("rename", "low", "high"), ("high", (0,))), ("low", (0,)))
        self.assertEqual(followed(program, ("rename", "low", "high"), ("main", (0,))), ("main", (0,)))

    def test_names_of_12_letters_and_names_that_are_given(self):
        self.assertTrue(is_deed(PAIR, ("rename", "low", "a" * 12)))
        for new in ["a" * 13, "", "main", "low", "Low", None, ("a",)]:
            self.assertFalse(is_deed(PAIR, ("rename", "low", new)), new)
            self.assertFalse(is_deed(PAIR, ("out", "low", (), 0, 1, new)), new)
            self.assertFalse(is_deed(PAIR, ("add", 0, (new, 0, []))), new)
        self.assertTrue(is_deed(PAIR, ("out", "low", (), 0, 1, "a" * 12)))

    def test_parts_that_are_put_first_and_last(self):
        part = ("new", 2, [("write", "x")])
        for at, names in [(0, ["new", "low", "main"]), (1, ["low", "new", "main"]), (2, ["low", "main", "new"])]:
            deed = ("add", at, part)
            self.assertEqual([name for name, _, _ in changed(PAIR, deed).parts()], names)
            self.assertIsNone(came_from(PAIR, deed, ("new", (0,))))
            self.assertEqual(followed(PAIR, deed, ("main", (1,))), ("main", (1,)))
            self.assertIsInstance(raised(lambda: followed(PAIR, deed, ("new", (0,)))), InvalidPlace)
        call = ("new", 1, [("call", "low", [N])])
        self.assertEqual([is_deed(PAIR, ("add", at, call)) for at in range(4)], [False, True, True, False])
        self.assertEqual(changed(Program([]), ("add", 0, part)).parts(), [part])

    def test_12_parts(self):
        full = Program([("a" * at, 0, [("write", "a")]) for at in range(1, 13)])
        self.assertFalse(is_deed(full, ("add", 0, ("b", 0, []))))
        self.assertFalse(is_deed(full, ("out", "a", (), 0, 1, "b")))
        self.assertTrue(is_deed(changed(full, ("drop", "aa")), ("add", 11, ("b", 0, []))))

    def test_parts_that_are_dropped(self):
        self.assertFalse(is_deed(PAIR, ("drop", "low")))
        other = changed(PAIR, ("drop", "main"))
        self.assertEqual(other.parts(), [LOW])
        self.assertIsNone(followed(PAIR, ("drop", "main"), ("main", (1,))))
        self.assertEqual(followed(PAIR, ("drop", "main"), ("low", (0,))), ("low", (0,)))
        self.assertEqual(changed(other, ("drop", "low")), Program([]))
        self.assertIsInstance(raised(lambda: came_from(PAIR, ("drop", "main"), ("main", (0,)))), InvalidPlace)


class OutAndIn(unittest.TestCase):
    def test_statements_that_are_taken_out_stand_directly_ahead(self):
        row = [("write", "a"), ("times", ((0, 1, 1), 0, 1), [("write", "b"), ("call", "low", [((0, 0, 1), 0, 1)])]), ("write", "c")]
        program = Program([LOW, ("main", 2, row), ("top", 0, [])])
        deed = ("out", "main", (1, 0), 0, 2, "new")
        units = [((0, 1, 0), 0, 1), ((0, 0, 1), 0, 1)]
        self.assertEqual(changed(program, deed).parts(),
                         [LOW, ("new", 2, row[1][2]),
                          ("main", 2, [row[0], ("times", ((0, 1, 1), 0, 1), [("call", "new", units)]), row[2]]), ("top", 0, [])])
        self.assertEqual(followed(program, deed, ("main", (1, 0, 1))), ("new", (1,)))
        self.assertEqual(followed(program, deed, ("main", (1,))), ("main", (1,)))
        self.assertEqual(came_from(program, deed, ("new", (0,))), ("main", (1, 0, 0)))
        self.assertIsNone(came_from(program, deed, ("main", (1, 0, 0))))
        nothing = changed(program, ("out", "top", (), 0, 0, "new"))
        self.assertEqual(nothing.parts()[2:], [("new", 0, []), ("top", 0, [("call", "new", [])])])
        self.assertEqual(changed(changed(nothing, ("in", "top", (0,))), ("drop", "new")), program)

    def test_weights_and_depths_that_taking_out_would_pass(self):
        deep = Program([("main", 0, nest(12, ("write", "a")))])
        self.assertFalse(is_deed(deep, ("out", "main", (), 0, 1, "new")))
        self.assertFalse(is_deed(deep, ("out", "main", (0, 0) * 11, 0, 1, "new")))
        self.assertTrue(is_deed(deep, ("out", "main", (0, 0) * 11, 1, 0, "new")))
        full = Program([("main", 0, [("write", "a")] * 5000)])
        self.assertFalse(is_deed(full, ("out", "main", (), 0, 5000, "new")))
        almost = Program([("main", 0, [("write", "a")] * 4999)])
        self.assertTrue(is_deed(almost, ("out", "main", (), 0, 4999, "new")))

    def amount_in(self, amount, call, many=1):
        """Return what an amount of the body called becomes behind the amounts of a call, None if there is no deed."""
        program = Program([("low", len(call), [("times", amount, [])]), ("main", many, [("call", "low", call)])])
        deed = ("in", "main", (0,))
        return changed(program, deed).parts()[1][2][0][1] if is_deed(program, deed) else None

    def test_amounts_that_are_led(self):
        plain, less, by = ((3, 2), 0, 1), ((1, 2), 4, 1), ((1, 2), 4, 3)
        self.assertEqual(self.amount_in(((1, 5), 2, 3), [plain]), ((16, 10), 2, 3))
        self.assertEqual(self.amount_in(((0, 1), 2, 3), [plain]), ((3, 2), 2, 3))
        self.assertEqual(self.amount_in(((0, 1), 2, 3), [less]), ((1, 2), 6, 3))
        self.assertEqual(self.amount_in(((0, 1), 2, 3), [by]), ((1, 2), 4 + 3 * 2, 9))
        self.assertEqual(self.amount_in(((7, 0), 2, 3), [by]), ((7, 0), 2, 3))
        self.assertEqual(self.amount_in(((0, 1, 0), 1, 2), [by, by]), ((1, 2), 4 + 3, 6))
        self.assertEqual(self.amount_in(((5, 2, 0), 1, 2), [plain, by]), ((11, 4), 1, 2))
        self.assertEqual(self.amount_in(((0, 1, 1), 0, 1), [plain, plain]), ((6, 4), 0, 1))
        self.assertEqual(self.amount_in(((4,), 1, 2), []), ((4, 0), 1, 2))
        self.assertEqual(self.amount_in(((0, BIG), 0, 1), [((0, BIG), 0, 1)]), ((0, BIG * BIG), 0, 1))

    def test_calls_whose_amounts_cannot_be_led(self):
        less, by, plain = ((0, 1), 1, 1), ((0, 1), 0, 2), ((0, 1), 0, 1)
        for call in [less, by]:
            for form in [(0, 2), (1, 1)]:
                self.assertIsNone(self.amount_in((form, 0, 1), [call]))
            self.assertIsNone(self.amount_in(((0, 1, 1), 0, 1), [call, plain]))
            self.assertIsNone(self.amount_in(((0, 1, 1), 0, 1), [plain, call]))
            self.assertIsNotNone(self.amount_in(((0, 1, 0), 0, 1), [call, plain]))
            self.assertIsNotNone(self.amount_in(((0, 3, 0), 0, 1), [plain, call]))

    def test_one_amount_anywhere_in_the_body_is_enough(self):
        call = [("call", "low", [((0, 1), 1, 1)])]
        for row in [[("write", "a"), ("times", ((0, 2), 0, 1), [])], [("below", N, 2, [], [("times", ((0, 2), 0, 1), [])])],
                    [("call", "lower", [((1, 1), 0, 1)])], [("leaves", ((0, 3), 0, 1), 1, 2, [], [])]]:
            program = Program([("lower", 1, []), ("low", 1, row), ("main", 1, call)])
            self.assertFalse(is_deed(program, ("in", "main", (0,))))

    def test_bodies_that_are_put_in(self):
        row = [("below", N, 2, [("write", "a")], [("call", "lower", [N])]), ("write", "b")]
        program = Program([("lower", 1, []), ("low", 1, row), ("main", 1, [("times", N, [("write", "x"), ("call", "low", [N]),
                                                                                       ("write", "y")])])])
        deed = ("in", "main", (0, 0, 1))
        self.assertEqual(changed(program, deed).parts()[2][2], [("times", N, [("write", "x")] + row + [("write", "y")])])
        self.assertIsNone(followed(program, deed, ("main", (0, 0, 1))))
        self.assertEqual(followed(program, deed, ("main", (0, 0, 2))), ("main", (0, 0, 3)))
        self.assertEqual(followed(program, deed, ("low", (0,))), ("low", (0,)))
        self.assertEqual(came_from(program, deed, ("main", (0, 0, 1, 1, 0))), ("low", (0, 1, 0)))
        self.assertEqual(came_from(program, deed, ("main", (0, 0, 2))), ("low", (1,)))
        self.assertEqual(came_from(program, deed, ("main", (0, 0, 3))), ("main", (0, 0, 2)))
        nothing = Program([("lower", 1, []), ("main", 1, [("call", "lower", [N]), ("write", "a")])])
        deed = ("in", "main", (0,))
        self.assertEqual(changed(nothing, deed).parts()[1][2], [("write", "a")])
        self.assertEqual(came_from(nothing, deed, ("main", (0,))), ("main", (1,)))


class Changes(unittest.TestCase):
    def test_the_errors_part_by_part(self):
        low = ("low", 1, [("write", "a")])
        square = [("times", N, [("times", N, [("write", "a")])])]
        program = Program([low, ("one", 1, [("call", "low", [N])]), ("two", 1, square + [("call", "low", [N])])])
        deed = ("splice", "low", (), 0, 1, [("write", "b")])
        error = raised(lambda: parts_changed(program, deed))
        self.assertIsInstance(error, OpenInOpen)
        self.assertEqual(error.place, ("two", (0,)))
        deed = ("splice", "low", (), 0, 1, square)
        self.assertEqual(raised(lambda: parts_changed(program, deed)).place, ("low", (0,)))
        deed = ("splice", "low", (), 0, 1, [("below", N, 600, [], [])])
        self.assertIsInstance(raised(lambda: parts_changed(program, deed)), TooMany)
        deed = ("splice", "low", (), 0, 1, [("times", ((2001, 0), 0, 1), [("write", "b")])])
        self.assertIsInstance(raised(lambda: parts_changed(program, deed)), TooLong)
        self.assertEqual(may_change(program, deed), ["low", "one", "two"])

    def test_parts_that_call_but_never_reach_what_is_changed(self):
        top = ("top", 1, [("below", N, 0, [("call", "low", [N])], []), ("write", "c")])
        program = Program([LOW, top])
        deed = ("splice", "low", (), 1, 0, [("write", "x")])
        self.assertEqual([may_change(program, deed), parts_changed(program, deed)], [["low", "top"], [("low", [0])]])

    def test_names_of_parts_ahead_of_a_deed(self):
        parts = {name: (many, body) for name, many, body in PAIR.parts()}
        self.assertEqual(name_ahead(move_of(parts, ("rename", "main", "all")), "all"), "main")
        self.assertEqual(name_ahead(move_of(parts, ("rename", "main", "all")), "low"), "low")
        self.assertIsNone(name_ahead(move_of(parts, ("add", 0, ("new", 0, []))), "new"))
        self.assertIsNone(name_ahead(move_of(parts, ("out", "main", (), 0, 1, "new")), "new"))
        self.assertEqual(name_ahead(move_of(parts, ("out", "main", (), 0, 1, "new")), "main"), "main")

    def test_the_deed_and_the_program_are_not_changed(self):
        row = [("times", N, [("write", "x")])]
        deed = ("splice", "main", (), 1, 1, row)
        other = changed(PAIR, deed)
        kept = other.parts()
        row[0][2].append(("write", "y"))
        self.assertEqual(other.parts(), kept)
        for item in lists_within(other.parts()) + lists_within(PAIR.parts()):
            item.clear()
        self.assertEqual([other.parts(), PAIR.parts()[0]], [kept, LOW])

    def test_limits(self):
        names = "abcdefghijkl"
        parts = [(names[at], 1, [("times", N, [("write", "ab")])] * 2500) for at in range(11)]
        program = Program(parts + [("l", 1, [("write", "c")] * 4000)])
        deed = ("out", "l", (), 0, 4000, "new")
        self.assertFalse(is_deed(program, deed))
        for deed in [("splice", "l", (), 3999, 1, [("write", "d")]), ("rename", "l", "new"), ("drop", "a")]:
            for call in [lambda: changed(program, deed), lambda: followed(program, deed, ("b", (2499,))),
                         lambda: came_from(program, deed, ("b", (2499,))), lambda: may_change(program, deed)]:
                self.assertLess(seconds(call), SECONDS)


if __name__ == "__main__":
    unittest.main()
