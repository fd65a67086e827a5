"""Points [34] to [37]: programs compiled."""

import random
import unittest

from helpers import BIG, GREATEST, PROGRAM, SECONDS, by_sum, cube, raised, seconds
from openloops.compiled import compiled, parting_parts, part_grid, program_of, same_parts
from openloops.errors import InvalidTable, OpenInOpen, TooLong, TooMany, UnknownPart, Unlike
from openloops.forms import value
from openloops.grids import Grid, class_forms, class_of, classes, place_in_class
from openloops.programs import Program
from openloops.running import run, run_length
from openloops.tables import CaseTable
from openloops.tableviews import table_written
from openloops.texts import OpenText, joined
from test_tables import random_cases
from walking import M, N, plain_amount, random_amount, random_program, walk_part

SIZES = [0, 9, 4, 2]
A, AB = ("write", "a"), ("write", "ab")


def one(many, body):
    """Return a program with one part."""
    return Program([("main", many, body)])


def primitive(letters):
    """Return statements that write a word of so many letters that is no shorter word taken several times."""
    word = "c" * (letters - 1) + "d"
    return [("write", word[at:at + 40]) for at in range(0, letters, 40)]


class Grids(unittest.TestCase):
    def limits(self, many, body):
        return part_grid(one(many, body), "main").limits()

    def test_example(self):
        self.assertEqual(part_grid(PROGRAM, "main").limits(), [(2, 1), (2, 1)])

    def test_what_amounts_need(self):
        for body, limits in [
                ([], [(0, 1)]), ([A], [(0, 1)]), ([("times", N, [])], [(0, 1)]), ([("times", ((0, 1), 3, 1), [])], [(3, 1)]),
                ([("times", ((1, 2), 4, 3), [])], [(2, 3)]), ([("times", ((0, 2), 0, 4), [])], [(0, 2)]),
                ([("times", ((9, 1), 4, 1), [])], [(0, 1)]), ([("times", ((4, 0), 9, 7), [])], [(0, 1)]),
                ([("below", N, 4, [], [])], [(4, 1)]), ([("below", N, 0, [], [])], [(0, 1)]),
                ([("below", ((1, 3), 2, 2), 5, [], [])], [(4, 2)]), ([("leaves", N, 1, 6, [], [])], [(0, 6)]),
                ([("leaves", ((0, 4), 0, 1), 1, 6, [], [])], [(0, 3)]), ([("leaves", ((0, 1), 5, 2), 0, 3, [], [])], [(5, 6)]),
                ([("times", N, [("below", N, 3, [("leaves", N, 0, 4, [], [])], [("leaves", N, 0, 6, [], [])])])], [(3, 12)])]:
            self.assertEqual(self.limits(1, body), limits, body)
        self.assertEqual(self.limits(2, [("times", ((1, 2, 3), 10, 2), []), ("below", M, 4, [], [])]), [(5, 1), (4, 2)])
        self.assertEqual(self.limits(0, [("times", ((1,), 10, 2), [])]), [])

    def test_what_calls_need(self):
        program = Program([("row", 1, [("below", N, 3, [], []), ("leaves", N, 0, 2, [], [])]),
                           ("main", 2, [("call", "row", [((0, 2, 1), 1, 3)])]),
                           ("top", 1, [("call", "main", [((2, 1), 0, 1), ((0, 0), 0, 1)])]), ("none", 1, [("call", "row", [((3, 0), 0, 1)])])])
        self.assertEqual(part_grid(program, "row").limits(), [(3, 2)])
        self.assertEqual(part_grid(program, "main").limits(), [(5, 3), (10, 6)])
        self.assertEqual(part_grid(program, "top").limits(), [(3, 3)])
        self.assertEqual(part_grid(program, "none").limits(), [(0, 1)])

    def test_one_outcome_and_one_form_in_each_class(self):
        chance = random.Random(34)
        for turn in range(100):
            many = 1 + turn % 3
            amount, bound, by = random_amount(chance, many), chance.randint(0, 4), chance.randint(1, 3)
            program, told = one(many, [("below", amount, bound, [], []), ("leaves", amount, 0, by, [], [])]), {}
            if raised(lambda: part_grid(program, "main")) is not None:
                continue
            grid = part_grid(program, "main")
            for point in cube(many, [0, 30, 10, 5][many]):
                number = plain_amount(amount, point)
                row = tuple(class_of(grid, point))
                self.assertEqual(told.setdefault(row, (number < bound, number % by)), (number < bound, number % by))

    def test_classes_up_to_600(self):
        self.assertEqual(self.limits(1, [("below", N, 599, [], [])]), [(599, 1)])
        inner = ("inner", 1, [("leaves", N, 0, BIG, [A], [])])
        for parts, name, wanted in [
                ([("main", 1, [("below", N, 600, [], [])])], "main", 601), ([("main", 1, [("leaves", N, 0, 601, [], [])])], "main", 601),
                ([("main", 2, [("below", N_OF_TWO, 24, [], []), ("below", M, 24, [], [])])], "main", 625), ([inner], "inner", BIG),
                ([("main", 1, [("leaves", N, 0, GREATEST, [], []), ("leaves", N, 0, BIG, [], [])])], "main", GREATEST * BIG)]:
            for function in [part_grid, compiled]:
                error = raised(lambda: function(Program(parts), name))
                self.assertEqual((type(error), error.value), (TooMany, wanted))
        # The grid of a part that is called may have any number of classes.
        program = Program([inner, ("main", 1, [("call", "inner", [((0, BIG), 0, 1)]), ("call", "inner", [((7, 0), 0, 1)])])])
        self.assertEqual(part_grid(program, "main").limits(), [(0, 1)])
        self.assertEqual(compiled(program, "main"), CaseTable(Grid([(0, 1)]), [OpenText(1, [("a", (1, 0))])]))


N_OF_TWO = ((0, 1, 0), 0, 1)


class Compiled(unittest.TestCase):
    def test_examples(self):
        table = compiled(PROGRAM, "main")
        self.assertEqual([table.grid().limits(), [text.pieces() for text in table.texts()]],
                         [[(2, 1), (0, 1)], [[("x", (1, 0, 0))], [("x", (1, 0, 0))], [("ab", (0, 1, 1))]]])

    def test_writes_what_a_walk_writes(self):
        chance, done = random.Random(35), 0
        while done < 120:
            many = done % 4
            program = random_program(chance, [1, chance.randint(0, 2), many], 3)
            if raised(lambda: compiled(program, "c")) is not None:
                continue
            done += 1
            table = compiled(program, "c")
            for point in chance.sample(cube(many, SIZES[many]), min(6, (SIZES[many] + 1) ** many)):
                if run_length(program, "c", point) <= 3000:
                    self.assertEqual(table_written(table, point), walk_part(program, "c", point))

    def test_loops(self):
        for body, pieces in [
                ([("times", N, [AB])], [("ab", (0, 1))]), ([("times", ((2, 3), 1, 1), [AB])], None), ([("times", ((3, 0), 0, 2), [AB])], [("ab", (1, 0))]),
                ([("times", ((3, 0), 0, 1), [("times", N, [A]), ("write", "b")])], [("a", (0, 1)), ("b", (1, 0))] * 3),
                ([("times", ((0, 2), 0, 2), [("times", ((2, 0), 0, 1), [A])])], [("aa", (0, 1))]), ([("times", ((3, 1), 1, 1), [])], []),
                ([("times", N, [("times", N, [])])], []), ([("times", N, [("below", N, 0, [("times", N, [A])], [A])])], [("a", (0, 1))]),
                ([("times", ((0, 0), 0, 1), [("times", N, [("times", N, [A])])]), A], [("a", (1, 0))]),
                ([("times", ((BIG, 0), 0, 1), [("times", ((BIG, 0), 0, 1), [])])], [])]:
            table = compiled(one(1, body), "main")
            if pieces is not None:
                self.assertEqual(table.texts(), [OpenText(1, pieces)], body)
            for count in range(5):
                self.assertEqual(table_written(table, [count]), run(one(1, body), "main", [count]))

    def test_a_loop_of_which_no_open_text_can_say_what_it_writes(self):
        inner = ("times", N, [A])
        for body, path in [
                ([A, ("times", N, [inner])], (1,)), ([("times", N, [("times", N, [inner]), A])], (0, 0, 0)),
                ([("below", N, 3, [], [("times", N, [inner])])], (0, 1, 0)), ([("leaves", N, 0, 2, [A, ("times", N, [A, inner])], [])], (0, 0, 1)),
                ([("times", ((2, 0), 0, 1), [("times", N, [inner])])], (0, 0, 0)), ([("times", N, [("below", N, 1, [], [inner])])], (0,))]:
            error = raised(lambda: compiled(one(1, body), "main"))
            self.assertIs(type(error), OpenInOpen)
            self.assertEqual(error.place, ("main", path))
        program = Program([("row", 1, [A, ("times", N, [inner])]), ("main", 1, [("times", N, [A]), ("call", "row", [N])])])
        self.assertEqual(raised(lambda: compiled(program, "main")).place, ("row", (1,)))
        program = Program([("row", 1, [inner]), ("main", 2, [("times", M, [("call", "row", [N_OF_TWO])])]), ("low", 1, [("call", "main", [N, ((4, 0), 0, 1)])])])
        self.assertEqual(raised(lambda: compiled(program, "main")).place, ("main", (0,)))
        self.assertEqual(compiled(program, "low").texts(), [OpenText(1, [("a", (0, 4))])])
        # In the first class, 0, nothing is read of the outer loop; in the next one it is refused.
        self.assertEqual(raised(lambda: compiled(one(1, [("times", ((0, 1), 2, 1), [inner])]), "main")).place, ("main", (0,)))

    def test_numbers_of_letters_that_do_not_go_up_evenly(self):
        chance, refused = random.Random(350), 0
        for turn in range(400):
            many = 1 + turn % 2
            program = random_program(chance, [many, many], 4)
            error = raised(lambda: compiled(program, "b"))
            if not isinstance(error, (type(None), OpenInOpen)):
                continue
            grid = part_grid(program, "b")
            uneven = False
            for row in classes(grid):
                forms = class_forms(grid, row)
                first, second, third = [run_length(program, "b", [value(form, [turns] * many) for form in forms]) for turns in range(3)]
                uneven = uneven or third - second != second - first
            self.assertIs(uneven, error is not None)
            refused += uneven
        self.assertGreater(refused, 10)

    def test_measures(self):
        long = primitive(1000)
        for body, wanted in [
                ([("times", ((2, 0), 0, 1), long)], None), ([("times", ((2, 0), 0, 1), long), A], 2001), ([("times", N, long * 2)], None),
                ([A, ("times", N, long * 2)], 2001), ([("times", ((BIG, 0), 0, 1), [AB])], 2 * BIG), ([("times", ((BIG, 1), 0, 1), [AB])], 2 * BIG + 2),
                ([("times", ((667, 0), 0, 1), [("times", N, [A]), ("write", "bc")])], 2001), ([("times", ((666, 0), 0, 1), [("times", N, [A]), ("write", "bc")]), AB], None),
                ([("times", ((666, 0), 0, 1), [("times", N, [A]), ("write", "bc")]), AB, A], 2001),
                ([("times", ((0, 0), 0, 1), [A] * 2001)], None), ([("below", N, 0, [A] * 2001, [A])], None), ([("below", N, 0, [], [A] * 2001)], 2001),
                ([("times", ((GREATEST, GREATEST), 0, 1), [])], None)]:
            error = raised(lambda: compiled(one(1, body), "main"))
            self.assertEqual(None if error is None else (type(error), error.value), wanted and (TooLong, wanted), str(body)[:100])

    def test_which_row_is_too_long(self):
        # Rows are measured when they have been read whole, the inner ones first.
        inner = [("times", N, [A] * 2001), ("times", N, [("times", N, [A])])]
        self.assertEqual(raised(lambda: compiled(one(1, inner), "main")).value, 2001)
        self.assertIs(type(raised(lambda: compiled(one(1, inner[::-1]), "main"))), OpenInOpen)
        self.assertIs(type(raised(lambda: compiled(one(1, [A] * 2001 + [("times", N, [("times", N, [A])])]), "main"))), OpenInOpen)
        program = Program([("row", 0, [A] * 2002), ("main", 1, [A] * 2001 + [("call", "row", [])])])
        self.assertEqual(raised(lambda: compiled(program, "main")).value, 2002)
        body = [("below", N, 1, [A] * 2001, [("times", N, [("times", N, [A])])])]
        self.assertIs(type(raised(lambda: compiled(one(1, body), "main"))), TooLong)
        self.assertIs(type(raised(lambda: compiled(one(1, [("below", N, 1, body[0][4], body[0][3])]), "main"))), TooLong)

    def test_too_many_classes_and_too_long_as_a_table(self):
        body = [("leaves", N_OF_TWO, 0, 20, [A], []), ("below", M, 22, [A], [])]
        error = raised(lambda: compiled(one(2, body), "main"))
        self.assertEqual([part_grid(one(2, body), "main").limits(), type(error), error.value], [[(0, 20), (22, 1)], TooMany, 42 * 23])
        # This comes ahead of what the reading of a class raises.
        error = raised(lambda: compiled(one(2, body + [A] * 2001), "main"))
        self.assertEqual((type(error), error.value), (TooMany, 42 * 23))
        program = one(2, [("times", N_OF_TWO, primitive(600)), ("below", M, 3, [A], [])])
        error = raised(lambda: compiled(program, "main"))
        self.assertEqual((type(error), error.value), (TooLong, 2401))

    def test_same_and_parting_parts(self):
        self.assertEqual([same_parts(PROGRAM, "main", "main"), parting_parts(PROGRAM, "row", "row")], [True, None])
        chance, same = random.Random(36), 0
        for turn in range(200):
            many = turn % 3
            program = random_program(chance, [many, many], 2)
            if raised(lambda: same_parts(program, "a", "b")) is not None:
                continue
            points = by_sum(many, [0, 12, 7][many])
            wanted = next((point for point in points if run(program, "a", point) != run(program, "b", point)), None)
            self.assertEqual(parting_parts(program, "a", "b"), wanted)
            self.assertIs(same_parts(program, "a", "b"), wanted is None)
            same += wanted is None
        self.assertGreater(same, 5)

    def test_errors_of_same_parts(self):
        program = Program([("a", 1, [("times", N, [("times", N, [A])])]), ("b", 1, [("below", N, 600, [], [])]), ("c", 2, []), ("d", 1, [A] * 2001),
                           ("e", 1, [("leaves", N, 0, 29, [A], [])]), ("f", 1, [("leaves", N, 0, 23, [A], [])])])
        for function in [same_parts, parting_parts]:
            for first, second, kind in [("a", "a", OpenInOpen), ("a", "b", OpenInOpen), ("b", "a", TooMany), ("d", "a", TooLong), ("c", "a", Unlike),
                                        ("a", "c", Unlike), ("a", "x", UnknownPart), ("x", "c", UnknownPart), ("e", "f", TooMany), ("e", "d", TooLong)]:
                self.assertIs(type(raised(lambda: function(program, first, second))), kind)
            self.assertEqual(raised(lambda: function(program, "e", "f")).value, 29 * 23)
            self.assertEqual(raised(lambda: function(program, "a", "c")).value, "c")
            self.assertEqual(raised(lambda: function(program, "b", "b")).value, 601)
            self.assertEqual(raised(lambda: function(program, "c", ["a"])).value, ["a"])

    def test_at_the_limits(self):
        amount = ((3, 1, 2, 1), 1, 2)
        wide = one(3, [("times", amount, [A]), ("write", "b")] * 100 + [("below", ((0, 1, 0, 0), 0, 1), 4, [A], [])])
        self.assertLess(seconds(lambda: raised(lambda: compiled(wide, "main"))), SECONDS)
        many = one(1, [("leaves", N, at % 300, 300, [("write", "ab")], [("write", "c")]) for at in range(66)] + [("times", N, [("write", "abc")])])
        self.assertEqual(len(classes(part_grid(many, "main"))), 300)
        self.assertLess(seconds(lambda: compiled(many, "main")), SECONDS)
        deep = [A]
        for _ in range(11):
            deep = [("times", ((2, 0), 0, 1), deep)]
        self.assertEqual(raised(lambda: compiled(one(1, deep), "main")).value, 2048)
        self.assertEqual(compiled(one(1, deep[0][2]), "main").texts(), [OpenText(1, [("a", (1024, 0))])])


class Programs(unittest.TestCase):
    def test_example(self):
        body = program_of(compiled(PROGRAM, "main")).parts()[0][2]
        self.assertEqual(body[1:], [("below", ((0, 1, 0), 0, 1), 1, [], [("below", ((0, 1, 0), 0, 1), 2, [("write", "x")], [])]),
                                    ("below", ((0, 1, 0), 0, 1), 2, [], [("times", ((0, 1, 0), 2, 1), [("write", "ab")]),
                                                                         ("times", ((0, 0, 1), 0, 1), [("write", "ab")])])])
        self.assertEqual(compiled(program_of(compiled(PROGRAM, "main")), "main"), compiled(PROGRAM, "main"))

    def test_writes_what_the_table_writes(self):
        chance = random.Random(37)
        for turn in range(100):
            many = turn % 4
            table = CaseTable(*random_cases(chance, many))
            program = program_of(table)
            self.assertEqual([part[:2] for part in program.parts()], [("main", many)])
            for point in cube(many, SIZES[many]):
                self.assertEqual(run(program, "main", point), table_written(table, point))
            if raised(lambda: compiled(program, "main")) is None:
                self.assertEqual(compiled(program, "main"), table)

    def test_equal_tables_give_equal_programs(self):
        texts = [OpenText(1, [("a", (at, 4))]) for at in range(4)]
        self.assertEqual(program_of(CaseTable(Grid([(0, 4)]), texts)), one(1, [("times", N, [A])]))
        self.assertEqual(program_of(CaseTable(Grid([(0, 1)]), [OpenText(1, [])])), one(1, []))

    def test_the_tests_of_a_class(self):
        texts = [OpenText(1, []) for _ in range(2)] + [OpenText(1, [("a", (0, 3)), ("b", (1, 0))]), OpenText(1, []), OpenText(1, [("c", (0, 1))])]
        table = CaseTable(Grid([(2, 3)]), texts)
        self.assertEqual(table.grid().limits(), [(2, 3)])
        self.assertEqual(program_of(table).parts()[0][2], [
            ("below", N, 2, [], [("leaves", N, 2, 3, [("times", ((0, 3), 6, 3), [A]), ("write", "b")], [])]),
            ("below", N, 2, [], [("leaves", N, 1, 3, [("times", ((0, 1), 4, 3), [("write", "c")])], [])])])
        texts = [OpenText(2, []) for _ in range(6)]
        texts[3] = OpenText(2, [("ab" * 25 + "c", (1, 0, 0)), ("ab", (0, 2, 1))])
        table = CaseTable(Grid([(1, 1), (0, 3)]), texts)
        self.assertEqual(table.grid().limits(), [(1, 1), (0, 3)])
        self.assertEqual(program_of(table).parts()[0][2], [
            ("below", N_OF_TWO, 1, [], [("leaves", M, 0, 3, [("write", "ab" * 20), ("write", "ab" * 5 + "c"),
                                                            ("times", ((0, 2, 0), 2, 1), [AB]), ("times", ((0, 0, 1), 0, 3), [AB])], [])])])

    def test_no_unknowns(self):
        self.assertEqual(program_of(CaseTable(Grid([]), [OpenText(0, [("abc", (20,))])])).parts(),
                         [("main", 0, [("write", ("abc" * 20)[:40]), ("write", ("abc" * 20)[40:])])])

    def test_weights_up_to_5000(self):
        def alternating(most, rest):
            return OpenText(1, [("a", (1, 0)), ("b", (0, 1))] * most + rest)

        # Each power is a loop with a write in it, each fixed piece one write more.
        self.assertIsNone(raised(lambda: program_of(CaseTable(Grid([(0, 1)]), [alternating(1000, [])]))))
        left, right = alternating(833, []), alternating(833, [("d", (1, 0))])
        table = CaseTable(Grid([(0, 2)]), [left, right])
        self.assertEqual(table.grid().limits(), [(0, 2)])
        error = raised(lambda: program_of(table))
        self.assertEqual((type(error), error.value), (TooMany, 2 * 833 * 3 + 1 + 2))
        other = OpenText(1, [("c", (1, 0)), ("b", (0, 1))] * 833)
        table = CaseTable(Grid([(0, 2)]), [left, other])
        self.assertEqual(table.grid().limits(), [(0, 2)])
        # The two tests of the classes bring it to just 5000.
        self.assertEqual(program_of(table).parts()[0][0], "main")
        # Eight tests of classes: one each for the counts 0 and from 4 on, two each for those between.
        texts = [OpenText(2, [(letter, (1, 0, 0)), ("b", (0, 0, 1))] * 332) for letter in "acdef"]
        more = OpenText(2, [("g", (1, 0, 0)), ("h", (0, 0, 1))])
        texts = [joined(text, more) for text in texts[:4]] + texts[4:]
        table = CaseTable(Grid([(4, 1), (0, 1)]), texts)
        self.assertEqual(table.grid().limits(), [(4, 1), (0, 1)])
        self.assertEqual(run(program_of(table), "main", [4, 0]), "f" * 332)
        texts[4] = joined(texts[4], OpenText(2, [("g", (1, 0, 0))]))
        error = raised(lambda: program_of(CaseTable(Grid([(4, 1), (0, 1)]), texts)))
        self.assertEqual((type(error), error.value), (TooMany, 5 * 332 * 3 + 4 * 3 + 1 + 8))
        error = raised(lambda: program_of(CaseTable(Grid([(1, 2)]), [OpenText(1, []), alternating(832, [("e", (1, 0))]), alternating(833, [("d", (1, 0))])])))
        self.assertEqual((type(error), error.value), (TooMany, 832 * 3 + 1 + 833 * 3 + 1 + 4))
        three = OpenText(3, [("a", (0, 1, 1, 1)), ("b", (0, 1, 1, 1))] * 1000)
        error = raised(lambda: program_of(CaseTable(Grid([(0, 1)] * 3), [three])))
        self.assertEqual((type(error), error.value), (TooMany, 2000 * 6))
        self.assertLess(seconds(lambda: raised(lambda: program_of(CaseTable(Grid([(0, 1)] * 3), [three])))), SECONDS)
        self.assertIs(type(raised(lambda: program_of(PROGRAM))), InvalidTable)


class Places(unittest.TestCase):
    def test_places_in_classes(self):
        grid = part_grid(PROGRAM, "main")
        self.assertEqual(place_in_class(grid, [5, 1]), [3, 0])


if __name__ == "__main__":
    unittest.main()
