"""Point [39]: chains of steps that lead from one part to another one."""

import random
import unittest

from helpers import BIG, SECONDS, cube, raised, same_list_twice, seconds, spoil
from openloops.compiled import compiled, program_of, same_parts
from openloops.derivations import derivation
from openloops.errors import InvalidProgram, OpenInOpen, TooLong, TooMany, UnknownPart, Unlike
from openloops.programs import Program
from openloops.rewriting import is_step, stepped
from walking import M, N, random_program, walk

A, B, AB = ("write", "a"), ("write", "b"), ("write", "ab")
EXAMPLE = Program([("one", 1, [("write", "a"), ("times", N, [("write", "ba")])]), ("other", 1, [("times", N, [("write", "ab")]), ("write", "a")]),
                   ("third", 1, [("times", N, [("write", "a")])])])


def constant(number, many=1):
    return ((number,) + (0,) * many, 0, 1)


class Derivations(unittest.TestCase):
    def check(self, program, one, other, looks=0):
        """Check that the steps lead from the one body to the other, and that the first ones write the same."""
        parts = {name: (many, body) for name, many, body in program.parts()}
        many, body = parts[one]
        points = cube(many, [0, 4, 2, 1][many])
        words = [walk(program.parts(), body, point) for point in points] if looks else []
        steps = derivation(program, one, other)
        self.assertIsNotNone(steps)
        for step in steps:
            self.assertTrue(is_step(program, many, body, step), step)
            body = stepped(program, many, body, step)
            if looks > 0:
                looks -= 1
                self.assertEqual([walk(program.parts(), body, point) for point in points], words)
        self.assertEqual(body, parts[other][1])
        return steps

    def bodies(self, many, one, other, parts=()):
        return self.check(Program(list(parts) + [("one", many, one), ("other", many, other)]), "one", "other")

    def test_examples(self):
        self.check(EXAMPLE, "one", "other")
        self.check(EXAMPLE, "other", "one")
        self.assertIsNone(derivation(EXAMPLE, "one", "third"))
        self.assertEqual(self.check(EXAMPLE, "third", "third"), [])

    def test_each_thing_that_bodies_may_differ_in(self):
        for one, other in [
                ([], []), ([AB], [A, B]), ([("times", N, [A]), B, ("times", N, [A]), A], [("times", N, [A]), B, A, ("times", N, [A])]),
                ([("times", N, [A]), B, A, ("times", N, [A])], [("times", N, [A]), ("write", "ba"), ("times", ((0, 2), 0, 2), [A])]), ([A] * 45, [("write", "a" * 40), ("write", "a" * 5)]), ([("times", constant(3), [A])], [A] * 3), ([("times", N, [])], []),
                ([("times", N, [("times", N, [])])], []), ([("times", constant(BIG), [])], []), ([("times", constant(0), [("times", N, [("times", N, [A])])])], []),
                ([("times", N, [A]), ("times", N, [A])], [("times", ((0, 2), 0, 1), [A])]), ([("times", N, [A, A, A])], [("times", ((0, 3), 0, 1), [A])]),
                ([("times", ((2, 3), 0, 1), [AB])], [AB, ("times", ((0, 3), 0, 1), [AB]), A, B]), ([B, A, B, ("times", N, [A, B]), A], [("times", N, [("write", "ba")]), ("write", "baba")]),
                ([AB, AB, AB, ("times", N, [AB])], [("times", N, [AB]), AB, AB, AB]), ([("write", "babab"), ("times", ((1, 1), 0, 1), [AB])], [B, ("times", N, [AB])] + [AB] * 3),
                ([("below", N, 3, [A], [A])], [A]), ([("below", N, 2, [("times", N, [A])], [("times", N, [A])])], [("times", N, [A])]),
                ([("below", N, 2, [("below", N, 1, [], [A])], [("times", N, [A])])], [("times", N, [A])]),
                ([("leaves", N, 0, 2, [("times", ((0, 1), 0, 2), [A, A])], [("times", ((0, 1), 0, 2), [A, A]), A])], [("times", N, [A])]),
                ([("times", ((0, 1), 2, 1), [A]), ("below", N, 2, [("times", N, [A])], [A, A])], [("times", N, [A])]),
                ([("leaves", N, 2, 3, [("leaves", N, 1, 3, [B], [A])], [A])], [A]), ([("times", ((1, 1), 0, 2), [A]), ("times", ((0, 1), 0, 2), [A])], [("times", N, [A])])]:
            self.bodies(1, one, other)

    def test_long_words(self):
        word = "abc" * 13 + "d"
        self.bodies(1, [("write", word), ("times", N, [("write", word), ("write", word)])], [("times", N, [("write", word), ("write", word)]), ("write", word)])
        left, right = [("write", "abc" * 13), ("write", "abc" * 5), ("times", N, [("write", "c"), ("write", "ab")])], \
            [("write", "ab"), ("times", N, [("write", "cab")]), ("write", "c")]
        self.assertIsNone(derivation(Program([("one", 1, left), ("other", 1, right)]), "one", "other"))
        right = [("write", "abc" * 13)] + [("write", "ab"), ("times", N, [("write", "cab")]), ("write", "c"), ("write", "abc" * 4)]
        self.bodies(1, [("write", "abc" * 13), ("write", "abc" * 5), ("times", N, [("write", "abc")])], right)

    def test_calls(self):
        row = ("row", 1, [("times", N, [A]), ("below", N, 3, [B], [])])
        outer = ("outer", 2, [("call", "row", [((0, 1, 1), 0, 1)]), ("leaves", M, 0, 2, [("write", "c")], [])])
        self.bodies(1, [("call", "row", [((0, 2), 0, 1)])], [("times", ((0, 2), 0, 1), [A]), ("below", ((0, 2), 0, 1), 3, [B], [])], [row])
        self.bodies(1, [("call", "outer", [((0, 1), 0, 2), constant(1)])], [("times", ((2, 1), 0, 2), [A]), ("below", N, 4, [B], [])], [row, outer])
        self.bodies(0, [("call", "outer", [constant(1, 0), constant(2, 0)])], [("write", "aaac")], [row, outer])
        self.bodies(1, [("times", constant(2), [("call", "row", [constant(3)])])], [("write", "aaaaaa")], [row])
        self.bodies(1, [("call", "row", [((0, 1), 0, 3)]), ("call", "row", [((5, 0), 0, 3)])],
                    [("times", ((0, 1), 0, 3), [A]), ("below", ((0, 1), 0, 3), 3, [B], []), AB], [row])

    def test_several_unknowns(self):
        two, three = ((0, 1, 0), 0, 1), ((0, 0, 1, 0), 0, 1)
        self.bodies(2, [("times", two, [A]), ("times", M, [A])], [("times", ((0, 1, 1), 0, 1), [A])])
        self.bodies(2, [("times", ((0, 1, 1), 1, 1), [AB]), ("below", ((0, 1, 1), 0, 1), 1, [], [AB])], [("times", ((0, 1, 1), 0, 1), [AB])])
        self.bodies(2, [("leaves", two, 0, 2, [("times", M, [A]), B], [("times", M, [A]), B])], [("times", M, [A]), B])
        self.bodies(3, [("times", three, [A]), ("times", ((0, 2, 0, 3), 0, 1), [A])], [("times", ((0, 2, 1, 3), 0, 1), [A])])
        self.bodies(2, [("times", ((0, 2, 3), 0, 6), [A]), ("times", ((5, 2, 3), 0, 6), [])], [("times", ((0, 2, 3), 0, 6), [A])])

    def test_random_parts_and_the_program_of_their_table(self):
        chance, done = random.Random(39), [0] * 4
        while min(done) < 25:
            many = chance.choice([at for at in range(4) if done[at] < 25])
            program = random_program(chance, [chance.randint(0, 2), many], 3)
            if raised(lambda: program_of(compiled(program, "b"))) is not None:
                continue
            both = Program(program.parts() + program_of(compiled(program, "b")).parts())
            if isinstance(raised(lambda: derivation(both, "b", "main")), TooMany):
                continue
            done[many] += 1
            self.check(both, "b", "main", 20)

    def test_random_parts_that_write_the_same(self):
        chance, told = random.Random(390), [0, 0]
        for _ in range(600):
            many = chance.randint(0, 2)
            program = random_program(chance, [many, many], 2)
            error = raised(lambda: derivation(program, "a", "b"))
            if error is not None:
                self.assertIsInstance(error, (TooMany, OpenInOpen, TooLong))
                continue
            same = same_parts(program, "a", "b")
            told[same] += 1
            if same:
                self.check(program, "a", "b", 20)
            else:
                self.assertIsNone(derivation(program, "a", "b"))
        self.assertGreater(min(told), 30)

    def test_lists_belong_to_the_caller(self):
        steps = derivation(EXAMPLE, "one", "other")
        self.assertFalse(same_list_twice(steps))
        spoil(steps)
        self.check(EXAMPLE, "one", "other")
        twice = Program([("one", 1, [("below", N, 2, [A, ("times", N, [B])], [A, ("times", N, [B])])]), ("other", 1, [A, ("times", N, [B])])])
        self.assertFalse(same_list_twice(derivation(twice, "one", "other")))


class Limits(unittest.TestCase):
    def parts(self, one, other):
        return Program([("one", 1, one), ("other", 1, other)])

    def test_classes_up_to_12(self):
        checker = Derivations()
        for one, other in [([("below", N, 11, [A], [A])], [A]), ([A], [("leaves", N, 5, 12, [A], [A])]), ([("leaves", N, 0, 4, [A], [A])], [("leaves", N, 0, 3, [A], [A])]),
                           ([("below", N, 5, [A], [A])], [("leaves", N, 6, 7, [A], [A])])]:
            checker.check(self.parts(one, other), "one", "other")
        for one, other, wanted in [([("below", N, 12, [A], [A])], [A], 13), ([A], [("leaves", N, 5, 13, [A], [A])], 13), ([("leaves", N, 0, 4, [A], [])], [("leaves", N, 0, 5, [A], [])], 20),
                                   ([("below", N, 12, [A], [])], [], 13), ([("below", N, 400, [A], [A])], [("leaves", N, 1, 300, [A], [A])], 700)]:
            program = self.parts(one, other)
            for first, second in [("one", "other"), ("other", "one")]:
                error = raised(lambda: derivation(program, first, second))
                self.assertEqual((type(error), error.value), (TooMany, wanted))

    def test_errors(self):
        program = Program([("one", 1, []), ("two", 2, []), ("deep", 1, [("times", N, [("times", N, [A])])]), ("long", 1, [A] * 2001)])
        for first, second, kind, thing in [("none", None, UnknownPart, "none"), ("one", ["one"], UnknownPart, ["one"]), ("one", "two", Unlike, "two"), ("two", "one", Unlike, "one"),
                                           ("one", "long", TooLong, 2001), ("long", "deep", TooLong, 2001)]:
            error = raised(lambda: derivation(program, first, second))
            self.assertEqual((type(error), error.value), (kind, thing))
        self.assertEqual(raised(lambda: derivation(program, "deep", "long")).place, ("deep", (0,)))
        self.assertIs(type(raised(lambda: derivation(None, None, None))), InvalidProgram)

    def test_at_the_limits(self):
        body = [("times", ((0, at % 3 + 1), 0, 1), [("write", "ab" if at % 2 else "ba")]) for at in range(26)] + [("leaves", N, 3, 12, [A], [A]), ("below", N, 0, [B], [])]
        mate = [("times", ((0, at % 3 + 1), 0, 1), [("write", "ab" if at % 2 else "ba")]) for at in range(26)] + [A]
        program = self.parts(body, mate)
        self.assertLess(seconds(lambda: derivation(program, "one", "other")), SECONDS)
        Derivations().check(program, "one", "other")
        body = [("times", ((0, 1), 0, 1), [("write", "abcd")])] * 29
        program = self.parts(body + [("leaves", N, 11, 12, [], [])], [("times", ((0, 29), 0, 1), [("write", "abcd")])])
        self.assertLess(seconds(lambda: derivation(program, "one", "other")), SECONDS)
        Derivations().check(program, "one", "other")


if __name__ == "__main__":
    unittest.main()
