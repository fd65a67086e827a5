"""Points [28] and [29]: amounts and programs."""

import random
import unittest

from helpers import BIG, GREATEST, PROGRAM, SECONDS, cube, raised, same_list_twice, seconds, spoil
from openloops.errors import InvalidAmount, InvalidNumber, InvalidPoint, InvalidProgram
from openloops.programs import Program, amount_value, is_amount
from walking import M, N, plain_amount, random_amount, random_program

WRITE = ("write", "a")


def nested(depth, inner=()):
    """Return a row of loops within loops, so many statements deep, with more statements in the innermost one."""
    row = [("times", N, list(inner))]
    for _ in range(depth - 1):
        row = [("times", N, row)]
    return row


class Amounts(unittest.TestCase):
    def test_examples(self):
        self.assertEqual([amount_value(((1, 2), 4, 3), [5]), amount_value(((1, 2), 4, 3), [1]),
                          is_amount(1, ((0, 1), 0, 0)), is_amount(1, ((0, 1), 5, 2))], [2, 0, False, True])

    def test_values(self):
        chance = random.Random(280)
        for turn in range(200):
            many = turn % 4
            amount = random_amount(chance, many)
            self.assertIs(is_amount(many, amount), True)
            self.assertIs(is_amount((many + 1) % 4, amount), False)
            for point in cube(many, 3):
                self.assertEqual(amount_value(amount, point), plain_amount(amount, point))

    def test_values_round_down_and_stop_at_0(self):
        self.assertEqual([amount_value(((0, 1), 3, 2), [count]) for count in range(9)], [0, 0, 0, 0, 0, 1, 1, 2, 2])
        self.assertEqual(amount_value(((GREATEST, BIG), BIG, 7), [BIG]), (GREATEST + BIG * BIG - BIG) // 7)
        self.assertEqual([amount_value(((5,), 2, 3), []), amount_value(((5,), 7, 1), [])], [1, 0])
        self.assertEqual(amount_value(((1, 2, 3, 4), 5, 6), [7, 8, 9]), (1 + 14 + 24 + 36 - 5) // 6)

    def test_wrong_arguments(self):
        for bad in [((0, 1), 0, 0), ((0, 1), -1, 1), ((0, 1), True, 1), ((0, 1), 0, True), [(0, 1), 0, 1], ((0, 1), 0),
                    ([0, 1], 0, 1), ((), 0, 1), ((0,) * 5, 0, 1), (0, 1), None]:
            for many in range(4):
                self.assertIs(is_amount(many, bad), False)
            error = raised(lambda: amount_value(bad, None))
            self.assertIs(type(error), InvalidAmount)
            self.assertIs(error.value, bad)
        self.assertIs(type(raised(lambda: amount_value(((0, 1), 0, 1), [1, 2]))), InvalidPoint)
        self.assertIs(type(raised(lambda: is_amount(True, 1))), InvalidNumber)


class Programs(unittest.TestCase):
    def test_examples(self):
        self.assertEqual([PROGRAM.parts()[0], PROGRAM == Program(PROGRAM.parts()), Program([]).parts()],
                         [("row", 1, [("times", ((0, 1), 0, 1), [("write", "ab")])]), True, []])

    def test_parts_are_what_was_handed_in(self):
        chance = random.Random(29)
        for turn in range(60):
            program = random_program(chance, [turn % 4, 1, 2])
            parts = program.parts()
            self.assertEqual(Program(parts), program)
            self.assertEqual(Program(parts).parts(), parts)

    def test_lists_belong_to_the_caller(self):
        row = [WRITE]
        parts = [("a", 1, [("times", N, row), ("below", N, 1, row, row), ("leaves", N, 0, 2, row, [])]),
                 ("b", 1, [("call", "a", [N])])]
        program = Program(parts)
        kept = program.parts()
        self.assertFalse(same_list_twice(kept))
        spoil(row)
        spoil(parts)
        self.assertEqual(program.parts(), kept)
        spoil(program.parts())
        self.assertEqual(program.parts(), kept)
        self.assertEqual(kept[0][2], [("times", N, [WRITE]), ("below", N, 1, [WRITE], [WRITE]), ("leaves", N, 0, 2, [WRITE], [])])

    def test_equal_just_if_the_parts_are(self):
        made = [[], [("a", 0, [])], [("b", 0, [])], [("a", 1, [])], [("a", 0, [WRITE])], [("a", 0, []), ("b", 0, [])],
                [("b", 0, []), ("a", 0, [])], [("a", 1, [("times", N, [])])], [("a", 1, [("times", ((0, 1), 1, 1), [])])]]
        for at, one in enumerate(made):
            for place, other in enumerate(made):
                self.assertIs(Program(one) == Program(other), at == place)


class Wrong(unittest.TestCase):
    def refused(self, parts, item):
        error = raised(lambda: Program(parts))
        self.assertIs(type(error), InvalidProgram)
        self.assertIs(error.value, item)

    def test_parts(self):
        many = [("abcdefghijklm"[at], 0, []) for at in range(13)]
        self.assertIsNone(raised(lambda: Program(many[:12])))
        for parts in [many, tuple(many[:2]), None, "a", {}, ("a", 0, [])]:
            self.refused(parts, parts)

    def test_the_first_item_that_is_no_part(self):
        good = ("a", 0, [])
        for bad in [None, "b", [], ["b", 0, []], ("b", 0), ("b", 0, [], []), ("", 0, []), ("a", 0, []), ("A", 0, []), ("b c", 0, []),
                    (1, 0, []), ("b", 4, []), ("b", -1, []), ("b", True, []), ("b", None, []), ("b", 0, ()), ("b", 0, None),
                    ("abcdefghijklm", 0, [])]:
            self.refused([good, bad, None], bad)
        self.assertIsNone(raised(lambda: Program([good, ("abcdefghijkl", 3, [])])))

    def test_statements(self):
        good = [WRITE, ("write", "ab" * 20), ("times", N, []), ("times", N, [WRITE]), ("below", N, 0, [], []),
                ("below", N, BIG, [WRITE], [WRITE]), ("leaves", N, 0, 1, [], []), ("leaves", N, 4, 5, [], []),
                ("leaves", N, BIG, GREATEST, [], []), ("call", "row", [N, ((0, 5), 1, 2)]), ("call", "none", [])]
        for statement in good:
            self.assertIsNone(raised(lambda: Program([("row", 2, []), ("none", 0, []), ("main", 1, [statement])])), statement)
        bad = [None, (), [], "write", ("write",), ("write", ""), ("write", "ab" * 20 + "a"), ("write", "A"), ("write", 1),
               ("write", "a", "a"), ["write", "a"], ("wrote", "a"), (["write"], "a"), (None, "a"), (True, N, []), ("times", N),
               ("times", N, [], []), ("times", N, ()), ("times", N, None), ("times", M, []), ("times", ((0, 1), 0, 0), []),
               ("times", [(0, 1), 0, 1], []), ("times", 1, []), ("times", N, [None]), ("below", N, 1, []), ("below", N, 1, [], [], []), ("below", N, -1, [], []),
               ("below", N, True, [], []), ("below", N, None, [], []), ("below", N, 1, (), []), ("below", N, 1, [], None),
               ("below", M, 1, [], []), ("below", N, 1, [], [("write", "")]), ("leaves", N, 0, [], []), ("leaves", N, 0, 2, [], [], []), ("leaves", N, 0, 0, [], []),
               ("leaves", N, 2, 2, [], []), ("leaves", N, -1, 2, [], []), ("leaves", N, False, 2, [], []), ("leaves", N, 0, True, [], []),
               ("leaves", N, 0, -1, [], []), ("leaves", M, 0, 2, [], []), ("leaves", N, 0, 2, [None], []), ("leaves", N, 0, 2, [], ()),
               ("call", "row", [N]), ("call", "row", [N, N, N]), ("call", "row", (N, N)), ("call", "row", [N, M]), ("call", "row"),
               ("call", "row", [N, None]), ("call", "main", [N]), ("call", "later", []), ("call", ["row"], [N, N]), ("call", None, []),
               ("call", "", []), ("call", "none", [N]), ("call", "none", None)]
        for statement in bad:
            for body in [[statement], [WRITE, statement], [("times", N, [statement])], [("below", N, 1, [], [statement])]]:
                part = ("main", 1, body)
                self.refused([("row", 2, []), ("none", 0, []), part, ("later", 0, [])], part)

    def test_depths_up_to_12(self):
        self.assertIsNone(raised(lambda: Program([("a", 1, nested(12))])))
        self.assertIsNone(raised(lambda: Program([("a", 1, nested(11, [WRITE]))])))
        for part in [("a", 1, nested(13)), ("a", 1, nested(12, [WRITE])), ("a", 1, [("below", N, 1, [], nested(12))]), ("a", 1, nested(14))]:
            self.refused([part], part)

    def test_depths_through_calls(self):
        inner, empty = ("inner", 1, nested(5, [WRITE])), ("empty", 0, [])
        call = ("call", "inner", [N])
        self.assertIsNone(raised(lambda: Program([inner, ("a", 1, nested(5, [call]))])))
        part = ("a", 1, nested(6, [call]))
        self.refused([inner, part], part)
        self.assertIsNone(raised(lambda: Program([empty, ("a", 1, nested(11, [("call", "empty", [])]))])))
        part = ("a", 1, nested(12, [("call", "empty", [])]))
        self.refused([empty, part], part)
        chain = [("a", 0, [WRITE])] + [("abcdefghijkl"[at], 0, [("call", "abcdefghijkl"[at - 1], [])]) for at in range(1, 12)]
        self.assertIsNone(raised(lambda: Program(chain)))
        deeper = ("l", 0, [("below", ((0,), 0, 1), 1, chain[11][2], [])])
        self.refused(chain[:11] + [deeper], deeper)

    def test_weights_up_to_5000(self):
        self.assertIsNone(raised(lambda: Program([("a", 0, [WRITE] * 5000)])))
        part = ("a", 0, [WRITE] * 5001)
        self.refused([part], part)
        self.assertIsNone(raised(lambda: Program([("a", 1, [("times", N, [WRITE] * 4999)])])))
        part = ("a", 1, [("below", N, 1, [WRITE] * 2500, [WRITE] * 2500)])
        self.refused([part], part)
        row, call = ("row", 0, [WRITE] * 99), ("call", "row", [])
        self.assertIsNone(raised(lambda: Program([row, ("a", 0, [call] * 50)])))
        part = ("a", 0, [call] * 50 + [WRITE])
        self.refused([row, part], part)
        part = ("b", 0, [("call", "a", [])])
        self.refused([row, ("a", 0, [call] * 50), part], part)
        # Parts that nobody calls count for themselves alone.
        self.assertIsNone(raised(lambda: Program([("abcdefghijkl"[at], 0, [WRITE] * 5000) for at in range(12)])))

    def test_rows_that_are_used_often(self):
        row = [WRITE]
        for _ in range(11):
            row = [("below", N, 1, row, row)] * 9
        part = ("a", 1, row)
        self.assertLess(seconds(lambda: self.refused([part], part)), SECONDS)

    def test_at_the_limits(self):
        parts = [("abcdefghijkl"[at], 3, [("leaves", ((1, 2, 3, 4), 5, 6), 1, 2, [WRITE], [])] * 2500) for at in range(12)]
        self.assertLess(seconds(lambda: Program(parts).parts()), SECONDS)


if __name__ == "__main__":
    unittest.main()
