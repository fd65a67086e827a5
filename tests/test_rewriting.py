"""Point [38]: single steps that rewrite rows."""

import copy
import random
import unittest

from helpers import BIG, GREATEST, PROGRAM, SECONDS, cube, raised, same_list_twice, seconds, spoil
from openloops.errors import InvalidList, InvalidNumber, InvalidProgram, InvalidStep
from openloops.programs import Program
from openloops.rewriting import is_step, stepped
from walking import M, N, plain_amount, random_amount, random_row, walk

A, B, AB = ("write", "a"), ("write", "b"), ("write", "ab")
ZERO = ((0, 0), 0, 1)
EMPTY = Program([])
RULES = ["spell", "sum", "unroll", "nest", "turn", "either", "held", "call"]
MOST = [0, 20, 13]


def constant(number, many=1):
    return ((number,) + (0,) * many, 0, 1)


def loop(amount, *body):
    return ("times", amount, list(body))


def both_ways(program, many, body, rule, path, start, old, new):
    """Tell of a step, and of the one back from where it leads, whether they are steps; they have to be alike."""
    step = (rule, path, start, old, new)
    there = is_step(program, many, body, step)
    result = copy.deepcopy(body)
    row = result
    for number, branch in zip(path[::2], path[1::2]):
        statement = row[number]
        row = statement[2] if statement[0] == "times" else statement[-2:][branch]
    row[start:start + len(old)] = copy.deepcopy(new)
    back = is_step(program, many, result, (rule, path, start, new, old))
    assert there is back, step
    if there:
        assert stepped(program, many, body, step) == result
        assert stepped(program, many, result, (rule, path, start, new, old)) == body
    return there


class Rules(unittest.TestCase):
    def check(self, rule, old, new, wanted, many=1, program=EMPTY):
        """Check a step for whole bodies, and within loops and between other statements, in both directions."""
        bodies = [(old, (), 0), ([A] + old + [B], (), 1), ([("times", (((1,) + (0,) * many), 0, 1), [B] + old)], (0, 0), 1),
                  ([A, ("below", constant(0, many), 1, old + [A], [])], (1, 0), 0), ([("leaves", constant(1, many), 0, 2, [A], old)], (0, 1), 0)]
        for body, path, start in bodies:
            self.assertIs(both_ways(program, many, body, rule, path, start, old, new), wanted, (rule, old, new, path))
        for other in RULES:
            told = [plain_rule(program.parts(), many, other, [], *rows) for rows in [(old, new), (new, old)]]
            self.assertIs(is_step(program, many, old, (other, (), 0, old, new)), any(told), (other, old, new))

    def test_spell(self):
        for old, new, wanted in [([AB], [A, B], True), ([A, B], [AB], True), ([AB, A], [A, ("write", "ba")], True), ([], [], True), ([A], [], False),
                                 ([AB], [B, A], False), ([AB], [AB], True), ([A, loop(N)], [A, loop(N)], False), ([A] * 41, [("write", "a" * 40), A], True)]:
            self.check("spell", old, new, wanted)

    def test_sum(self):
        for old, new, wanted in [
                ([loop(N, A)], [loop(N, A)], True), ([loop(N, A), loop(N, A)], [loop(((0, 2), 0, 1), A)], True), ([loop(N, A), loop(N, A)], [loop(N, A)], False),
                ([loop(N, A), loop(constant(3), A)], [loop(((3, 1), 0, 1), A)], True), ([loop(N, A), loop(N, B)], [loop(((0, 2), 0, 1), A)], False),
                ([loop(N, A), loop(N, B)], [loop(N, B), loop(N, A)], False), ([loop(N, A), loop(constant(2), A)], [loop(constant(2), A), loop(N, A)], True),
                ([loop(((0, 1), 0, 2), A), loop(((1, 1), 0, 2), A)], [loop(N, A)], True), ([loop(((0, 1), 0, 2), A), loop(((0, 1), 0, 2), A)], [loop(N, A)], False),
                ([loop(((0, 1), 1, 1), A), loop(constant(1), A)], [loop(N, A)], False), ([loop(((1, 1), 1, 1), A)], [loop(N, A)], True),
                ([], [loop(ZERO, A)], True), ([], [loop(ZERO, A), loop(((3, 0), 5, 1), A)], True), ([], [loop(N)], False), ([], [], True), ([loop(N)], [loop(N), loop(N)], False),
                ([loop(((0, 3), 0, 1), A)], [loop(((0, 6), 0, 2), A)], True), ([A], [A], False), ([loop(N, A), A], [loop(((1, 1), 0, 1), A)], False),
                ([], [loop(((0, 1), 1, 1)), loop(ZERO)], False)]:
            self.check("sum", old, new, wanted)
        two = ((0, 1, 0), 0, 1)
        self.check("sum", [loop(two, A), loop(M, A)], [loop(((0, 1, 1), 0, 1), A)], True, 2)
        self.check("sum", [loop(two, A)], [loop(M, A)], False, 2)
        self.check("sum", [loop(constant(3, 0), A)], [loop(constant(1, 0), A), loop(((9,), 5, 2), A)], True, 0)

    def test_unroll(self):
        for old, new, wanted in [
                ([loop(constant(3), A, B)], [A, B] * 3, True), ([loop(constant(3), A, B)], [A, B] * 2, False), ([loop(constant(3), A, B)], [A, B] * 4, False),
                ([loop(constant(3), A)], [A, A, B], False), ([loop(ZERO, A)], [], True), ([loop(ZERO, A)], [A], False), ([loop(((3, 0), 5, 1), A)], [], True),
                ([loop(((9, 0), 0, 4), A)], [A, A], True), ([loop(N, A)], [A], False), ([loop(N)], [], False), ([loop(constant(GREATEST))], [], True),
                ([loop(constant(GREATEST), A)], [], False), ([loop(constant(1), loop(N, A))], [loop(N, A)], True), ([loop(ZERO)], [], True), ([], [loop(constant(0), A)], True),
                ([loop(((0, 1), 0, 3), A)], [], False), ([], [], False)]:
            self.check("unroll", old, new, wanted)

    def test_nest(self):
        for old, new, wanted in [
                ([loop(constant(2), loop(N, A))], [loop(((0, 2), 0, 1), A)], True), ([loop(N, loop(constant(2), A))], [loop(((0, 2), 0, 1), A)], True),
                ([loop(N, loop(N, A))], [loop(N, A)], False), ([loop(constant(2), loop(constant(3), A))], [loop(constant(6), A)], True),
                ([loop(constant(2), loop(constant(3), A))], [loop(constant(5), A)], False), ([loop(N, loop(ZERO, A))], [loop(ZERO, A)], True),
                ([loop(ZERO, loop(N, A))], [loop(((0, 0), 4, 1), A)], True), ([loop(constant(2), loop(N, A))], [loop(((0, 2), 0, 1), B)], False),
                ([loop(constant(1), loop(N, A), A)], [loop(N, A)], False), ([loop(constant(3), loop(((1, 2), 0, 1), A))], [loop(((3, 6), 0, 1), A)], True),
                ([loop(((0, 1), 0, 2), loop(constant(2), A))], [loop(N, A)], False), ([loop(N, loop(N))], [loop(N)], False), ([loop(ZERO, loop(N))], [loop(ZERO)], True),
                ([loop(constant(1), A)], [A], False)]:
            self.check("nest", old, new, wanted)
        self.check("nest", [loop(((0, 1, 0), 0, 1), loop(M, A))], [loop(((0, 1, 1), 0, 1), A)], False, 2)

    def test_turn(self):
        for old, new, wanted in [
                ([A, loop(N, B, A)], [loop(N, A, B), A], True), ([A, loop(N, A)], [loop(N, A), A], True), ([A, loop(N, B, A)], [loop(N, B, A), A], False),
                ([A, B, loop(N, AB, A, B)], [loop(N, A, B, AB), A, B], True), ([A, B, loop(N, B)], [loop(N, B), A, B], False), ([loop(N, A)], [loop(N, A)], True),
                ([A, loop(N, B, A)], [loop(((0, 2), 0, 2), A, B), A], False), ([A, loop(N, B, A)], [loop(N, A, B), B], False), ([loop(N, A), loop(N, loop(N, A))],
                                                                                                                           [loop(N, loop(N, A)), loop(N, A)], True),
                ([A, loop(N)], [loop(N), A], False), ([A, loop(N, B, A)], [loop(N, B, B), A], False), ([A, loop(N, B, B)], [loop(N, A, B), A], False),
                ([A, loop(N, B, A)], [loop(N, A, AB), A], False), ([A, A, loop(N, A)], [loop(N, A), A, A], False), ([AB, loop(N, AB)], [loop(N, A, B), AB], False), ([], [], False)]:
            self.check("turn", old, new, wanted)

    def test_either(self):
        for old, new, wanted in [
                ([("below", N, 3, [A], [A])], [A], True), ([("leaves", N, 1, 3, [A, B], [A, B])], [A, B], True), ([("below", N, 3, [A], [B])], [A], False),
                ([("below", N, 3, [], [])], [], True), ([("below", N, 3, [A], [A])], [], False), ([loop(N, A)], [A], False),
                ([("below", N, 3, [A], [A]), A], [A, A], False)]:
            self.check("either", old, new, wanted)

    def test_held(self):
        for old, new, wanted in [
                ([("below", constant(2), 3, [A], [B])], [A], True), ([("below", constant(3), 3, [A], [B])], [B], True), ([("below", constant(3), 3, [A], [B])], [A], False),
                ([("below", N, 0, [A], [])], [], True), ([("below", N, 1, [A], [B])], [A], False), ([("below", N, 1, [A], [B])], [B], False), ([("below", N, 1, [A], [A])], [A], False),
                ([("leaves", ((1, 4), 0, 1), 1, 2, [A], [B, B])], [A], True), ([("leaves", ((1, 4), 0, 1), 1, 2, [A], [B, B])], [B, B], False),
                ([("leaves", ((1, 4), 0, 1), 1, 3, [A], [B])], [A], False), ([("leaves", N, 0, 1, [A], [B])], [A], True), ([A], [A], False), ([], [], False)]:
            self.check("held", old, new, wanted)

    def test_call(self):
        program = Program([("row", 1, [("times", ((2, 3), 4, 2), [A]), ("below", N, 5, [B], [("call", "none", [])][:0])]), ("none", 0, []),
                           ("outer", 2, [("call", "row", [((1, 1, 2), 0, 1)]), ("leaves", M, 1, 3, [], [A])])])
        call = ("call", "row", [((0, 4), 0, 1)])

        def row(times, below, bound=5, word=B):
            return [("times", times, [A]), ("below", below, bound, [word], [])]

        for old, new, wanted in [
                ([call], row(((2, 12), 4, 2), ((0, 4), 0, 1)), True), ([call], row(((1, 6), 2, 1), ((0, 4), 0, 1)), True), ([call], row(((0, 6), 0, 1), ((0, 4), 0, 1)), False),
                ([call], row(((1, 6), 2, 1), ((0, 8), 0, 2)), True), ([call], row(((1, 6), 2, 1), ((0, 4), 1, 1)), False), ([call], row(((1, 6), 2, 1), ((0, 4), 0, 1), 6), False),
                ([call], row(((1, 6), 2, 1), ((0, 4), 0, 1), 5, A), False), ([call], row(((1, 6), 2, 1), ((0, 4), 0, 1))[:1], False), ([call], [], False),
                ([("call", "none", [])], [], True), ([("call", "none", [])], [A], False), ([], [], False),
                ([("call", "row", [((0, 1), 3, 2)])], row(((2, 3), 13, 4), ((0, 1), 3, 2)), False), ([("call", "row", [constant(2)])], row(constant(2), constant(2)), True)]:
            self.check("call", old, new, wanted, 1, program)
        outer = ("call", "outer", [N, constant(4)])
        self.check("call", [outer], [("call", "row", [((9, 1), 0, 1)]), ("leaves", constant(4), 1, 3, [], [A])], True, 1, program)
        self.check("call", [outer], [("call", "row", [((9, 1), 0, 1)]), ("leaves", constant(1), 1, 3, [], [A])], False, 1, program)
        self.check("call", [outer], [("call", "none", []), ("leaves", constant(4), 1, 3, [], [A])], False, 1, program)
        self.check("call", [outer], [("call", "row", [((9, 1), 0, 1)]), ("leaves", constant(4), 2, 3, [], [A])], False, 1, program)


class Way(unittest.TestCase):
    def within(self, tests, row):
        """Return a body with a row within tests, each given with the outcome, and the path to it."""
        path = ()
        for test, branch in reversed(tests):
            row = [A, test + ((row, []) if branch == 0 else ([], row))]
            path = (1, branch) + path
        return row, path

    def told(self, tests, rule, old, new, many=1):
        body, path = self.within(tests, old)
        return both_ways(EMPTY, many, body, rule, path, 0, old, new)

    def test_what_is_asked_only_at_the_points_of_the_way(self):
        low, high, even, odd = (("below", N, 3), 0), (("below", N, 3), 1), (("leaves", N, 0, 2), 0), (("leaves", N, 0, 2), 1)
        halves = [loop(((0, 1), 0, 2), A), loop(((0, 1), 0, 2), A)]
        for tests, rule, old, new, wanted in [
                ([even], "sum", halves, [loop(N, A)], True), ([odd], "sum", halves, [loop(N, A)], False), ([odd], "sum", halves + [loop(constant(1), A)], [loop(N, A)], True),
                ([high], "sum", [loop(((0, 1), 3, 1), A), loop(constant(3), A)], [loop(N, A)], True), ([low], "sum", [loop(((0, 1), 3, 1), A), loop(constant(3), A)], [loop(N, A)], False),
                ([low], "unroll", [loop(((0, 1), 3, 1), A)], [], True), ([high], "unroll", [loop(((0, 1), 3, 1), A)], [], False),
                ([low, (("below", N, 2), 1)], "unroll", [loop(N, A)], [A, A], True), ([low, (("below", N, 1), 1)], "unroll", [loop(N, A)], [A, A], False),
                ([low, even, (("below", N, 1), 1)], "unroll", [loop(N, A)], [A, A], True), ([low], "held", [("below", N, 3, [A], [B])], [A], True),
                ([low], "held", [("below", N, 2, [A], [B])], [A], False), ([high], "held", [("below", N, 2, [A], [B])], [B], True),
                ([even], "held", [("leaves", N, 1, 4, [A], [B])], [B], True), ([even], "held", [("leaves", N, 2, 4, [A], [B])], [B], False),
                ([odd, (("leaves", N, 1, 4), 1)], "held", [("leaves", N, 3, 4, [A], [B])], [A], True),
                ([even], "nest", [loop(((0, 1), 0, 2), loop(constant(2), A))], [loop(N, A)], True), ([odd], "nest", [loop(((0, 1), 0, 2), loop(constant(2), A))], [loop(N, A)], False),
                ([low, (("below", N, 2), 1)], "nest", [loop(N, loop(N, A))], [loop(constant(4), A)], True), ([low], "nest", [loop(N, loop(N, A))], [loop(constant(4), A)], False)]:
            self.assertIs(self.told(tests, rule, old, new), wanted, (tests, rule, old, new))

    def test_no_points_of_the_way(self):
        tests = [(("below", N, 3), 0), (("below", N, 3), 1)]
        for rule, old, new, wanted in [
                ("unroll", [loop(N, A)], [A] * 7, True), ("unroll", [loop(N, A)], [], True), ("unroll", [loop(N, A, B)], [A, B, A], False), ("unroll", [loop(N)], [], True),
                ("unroll", [loop(N)], [A], False), ("held", [("below", N, 1, [A], [B])], [A], True), ("held", [("below", N, 1, [A], [B])], [B], True),
                ("held", [("below", N, 1, [A], [B])], [AB], False), ("sum", [loop(N, A)], [], True), ("sum", [loop(N, A)], [loop(N, B)], False), ("spell", [A], [B], False),
                ("nest", [loop(N, loop(N, A))], [loop(ZERO, A)], True), ("nest", [loop(N, loop(N, A))], [loop(ZERO, B)], False), ("turn", [A, loop(N, A)], [loop(ZERO, A), A], False),
                ("either", [("below", N, 1, [A], [B])], [A], False)]:
            self.assertIs(self.told(tests, rule, old, new), wanted, (rule, old, new))
        program = Program([("row", 1, [loop(N, A)])])
        body, path = self.within(tests, [("call", "row", [N])])
        for new, wanted in [([loop(constant(9), A)], True), ([loop(constant(9), B)], False), ([A], False)]:
            self.assertIs(both_ways(program, 1, body, "call", path, 0, [("call", "row", [N])], new), wanted)

    def test_loops_on_the_path_ask_for_nothing(self):
        body = [loop(ZERO, loop(N, A))]
        self.assertFalse(is_step(EMPTY, 1, body, ("unroll", (0, 0), 0, [loop(N, A)], [])))
        body = [("below", N, 3, [loop(N, ("below", N, 2, [], [loop(N, A)]))], [])]
        self.assertTrue(is_step(EMPTY, 1, body, ("unroll", (0, 0, 0, 0, 0, 1), 0, [loop(N, A)], [A, A])))

    def test_tests_of_several_unknowns(self):
        both = ((0, 1, 1), 0, 1)
        tests = [(("below", both, 3), 0), (("below", M, 2), 1)]
        self.assertTrue(self.told(tests, "held", [("below", ((0, 1, 0), 0, 1), 1, [A], [B])], [A], 2))
        self.assertTrue(self.told(tests, "unroll", [loop(M, A)], [A, A], 2))
        self.assertFalse(self.told(tests[:1], "unroll", [loop(M, A)], [A, A], 2))
        self.assertTrue(self.told(tests[1:], "sum", [loop(((0, 1, 1), 2, 1), A), loop(constant(2, 2), A)], [loop(both, A)], 2))
        self.assertFalse(self.told(tests[:1], "sum", [loop(((0, 1, 1), 2, 1), A), loop(constant(2, 2), A)], [loop(both, A)], 2))


def plain_rule(parts, many, rule, tests, first, second):
    """Tell by plain counting at small points whether two rows are what a rule says."""
    points = [point for point in cube(many, MOST[many]) if all(plain_branch(test, point) == branch for test, branch in tests)]

    def numbers(amount):
        return [plain_amount(amount, point) for point in points]

    def heads(row, kinds):
        return len(row) == 1 and row[0][0] in kinds

    if rule == "spell":
        return all(item[0] == "write" for item in first + second) and walk(parts, first, []) == walk(parts, second, [])
    if rule == "sum":
        loops = first + second
        alike = all(item[0] == "times" and item[2] == loops[0][2] for item in loops)
        return alike and all(sum(plain_amount(item[1], point) for item in first) == sum(plain_amount(item[1], point) for item in second)
                             for point in points)
    if rule == "unroll":
        if not heads(first, ["times"]):
            return False
        found = set(numbers(first[0][1]))
        tries = found if points else range(len(second) + 1)
        body = first[0][2]
        return len(found) <= 1 and any(len(second) == len(body) * times and second == body * min(times, len(second)) for times in tries)
    if rule == "nest":
        if not heads(first, ["times"]) or not heads(first[0][2], ["times"]) or not heads(second, ["times"]):
            return False
        inner = first[0][2][0]
        return inner[2] == second[0][2] and all(one * other == product for one, other, product in
                                                zip(numbers(first[0][1]), numbers(inner[1]), numbers(second[0][1])))
    if rule == "turn":
        return any(first == second[1:] + [("times", second[0][1], second[0][2][len(second) - 1:] + second[1:])]
                   and second[0][2][:len(second) - 1] == second[1:] for _ in [0] if second and second[0][0] == "times")
    if rule == "either":
        return heads(first, ["below", "leaves"]) and first[0][-2] == second == first[0][-1]
    if rule == "held":
        if not heads(first, ["below", "leaves"]):
            return False
        found = {plain_branch(first[0], point) for point in points}
        return len(found) <= 1 and second in [first[0][-2:][branch] for branch in found or [0, 1]]
    if not heads(first, ["call"]):
        return False
    body = [part[2] for part in parts if part[0] == first[0][1]][0]
    return alike_but_for_amounts(body, second, [[plain_amount(amount, point) for amount in first[0][2]] for point in points], points)


def plain_branch(test, point):
    """Return the outcome of a test at a point."""
    number = plain_amount(test[1], point)
    if test[0] == "below":
        return 0 if number < test[2] else 1
    return 0 if number % test[3] == test[2] else 1


def alike_but_for_amounts(row, other, values, points):
    """Tell whether the amounts of a row at some values are those of another row, else alike, at as many points."""
    def same(one, mate):
        return all(plain_amount(one, value) == plain_amount(mate, point) for value, point in zip(values, points))

    if len(row) != len(other):
        return False
    for one, mate in zip(row, other):
        if one[0] != mate[0] or len(one) != len(mate):
            return False
        if one[0] == "write" and one != mate:
            return False
        if one[0] == "call" and (one[1] != mate[1] or not all(map(same, one[2], mate[2]))):
            return False
        if one[0] in ["below", "leaves"] and (one[2:-2] != mate[2:-2] or not same(one[1], mate[1])):
            return False
        if one[0] == "times" and not same(one[1], mate[1]):
            return False
        rows = {"times": 1, "below": 2, "leaves": 2}.get(one[0], 0)
        if rows and not all(alike_but_for_amounts(left, right, values, points) for left, right in zip(one[-rows:], mate[-rows:])):
            return False
    return True


class Counted(unittest.TestCase):
    def amount(self, chance, many):
        """Return an amount that is often equal to another one."""
        form = tuple([chance.randint(0, 2)] + [chance.choice([0, 0, 1, 2]) for _ in range(many)])
        return chance.choice([(form, 0, 1), (form, chance.randint(0, 2), 1), (tuple(2 * number for number in form), 0, 2),
                              (form, 0, 2), ((chance.randint(0, 2),) + (0,) * many, 0, 1)])

    def rows(self, chance, many, rule):
        """Return two rows that may be what a rule says."""
        amount, other = self.amount(chance, many), self.amount(chance, many)
        body = random_row(chance, many, [], 2, 2)
        if rule == "spell":
            return [AB, A], chance.choice([[A, B, A], [("write", "aba")], [A, AB], [AB, loop(amount, A)]])
        if rule == "sum":
            cut = [loop(self.amount(chance, many), *body) for _ in range(chance.randint(0, 2))]
            return cut, [loop(self.amount(chance, many), *body) for _ in range(chance.randint(0, 2))]
        if rule == "unroll":
            return [loop(amount, *body)], body * chance.randint(0, 4)
        if rule == "nest":
            return [loop(amount, loop(other, *body))], [loop(self.amount(chance, many), *body)]
        if rule == "turn":
            rest = random_row(chance, many, [], 2, 1)
            return body + [loop(amount, *rest, *body)], [loop(chance.choice([amount, amount, other]), *body, *rest)] + body
        if rule in ["either", "held"]:
            rows = (body, chance.choice([body, [A]]))
            test = ("below", amount, chance.randint(0, 4)) if chance.random() < 0.5 else ("leaves", amount, chance.randint(0, 1), 2)
            return [test + rows], rows[chance.randint(0, 1)]
        name, wanted = chance.choice([("one", 1), ("two", 2)])
        return [("call", name, [self.amount(chance, many) for _ in range(wanted)])], [loop(self.amount(chance, many), A)]

    def test_a_step_exactly_if_the_rows_are_what_the_rule_says(self):
        program = Program([("one", 1, [loop(((1, 1), 0, 1), A)]), ("two", 2, [loop(((0, 1, 1), 1, 2), A)])])
        chance, told = random.Random(38), {}
        for turn in range(4000):
            many, rule = chance.randint(0, 2), RULES[turn % 8]
            first, second = self.rows(chance, many, rule)
            tests, body, path = [], first, ()
            for _ in range(chance.randint(0, 2)):
                test = ("below", self.amount(chance, many), chance.randint(0, 3)) if chance.random() < 0.5 else \
                    ("leaves", self.amount(chance, many), chance.randint(0, 1), 2)
                branch = chance.randint(0, 1)
                body, path = [test + ((body, [B]) if branch == 0 else ([], body))], (0, branch) + path
                tests.append((test, branch))
            wanted = plain_rule(program.parts(), many, rule, tests, first, second) or \
                plain_rule(program.parts(), many, rule, tests, second, first)
            self.assertIs(both_ways(program, many, body, rule, path, 0, first, second), wanted, (many, rule, tests, first, second))
            told[rule, wanted] = told.get((rule, wanted), 0) + 1
        self.assertEqual(len(told), 16)
        self.assertGreater(min(told.values()), 8, told)

    def test_steps_change_nothing_that_is_written(self):
        chance, done = random.Random(380), 0
        while done < 60:
            many = chance.randint(0, 2)
            amounts = [self.amount(chance, many) for _ in range(3)]
            first = [loop(amount, A) for amount in amounts[:2]]
            second = [loop(amounts[2], A)]
            test = ("leaves", random_amount(chance, many), 0, 2)
            body = [B, test + (first, [])]
            step = ("sum", (1, 0), 0, first, second)
            if is_step(EMPTY, many, body, step):
                done += 1
                for point in cube(many, 4):
                    self.assertEqual(walk([], stepped(EMPTY, many, body, step), point), walk([], body, point))


class Shapes(unittest.TestCase):
    def test_paths_and_places(self):
        body = [A, loop(N, A, B), ("below", N, 1, [A], [B, ("leaves", N, 0, 2, [], [AB])])]
        for path, start, old, new, wanted in [
                ((), 0, [A], [A], True), ((), 1, [A], [A], False), ((1, 0), 0, [A, B], [AB], True), ((1, 0), 1, [B], [B], True), ((1, 0), 1, [A, B], [AB], False),
                ((1, 0), 2, [], [], True), ((1, 0), 3, [], [], False), ((1, 1), 0, [], [], False), ((0, 0), 0, [], [], False), ((3, 0), 0, [], [], False),
                ((2, 0), 0, [A], [A], True), ((2, 1), 0, [B], [B], True), ((2, 2), 0, [], [], False), ((2, 1, 1, 1), 0, [AB], [A, B], True), ((2, 1, 1, 0), 0, [], [], True),
                ((2, 1, 0, 0), 0, [], [], False), ((BIG, 0), 0, [], [], False), ((), BIG, [], [], False), ((), 3, [], [], True), ((1,), 0, [], [], False), ((1, 0, 0), 0, [], [], False)]:
            self.assertIs(is_step(EMPTY, 1, body, ("spell", path, start, old, new)), wanted, (path, start))

    def test_values_that_are_no_steps(self):
        body = [A]
        good = ("spell", (), 0, [A], [A])
        self.assertTrue(is_step(EMPTY, 1, body, good))
        for at, bad in [(0, "spells"), (0, None), (0, ["spell"]), (0, 0), (1, []), (1, None), (1, (0,)), (1, (True, 0)), (1, (-1, 0)), (1, ("", "")), (2, True), (2, -1),
                        (2, None), (2, "0"), (3, (A,)), (3, None), (3, [None]), (3, [("write", "")]), (3, A), (4, (A,)), (4, None), (4, [("write", "A")]), (4, [["write", "a"]]),
                        (4, [("call", "none", [])])]:
            value = good[:at] + (bad,) + good[at + 1:]
            self.assertIs(is_step(EMPTY, 1, body, value), False)
            error = raised(lambda: stepped(EMPTY, 1, body, value))
            self.assertIs(type(error), InvalidStep)
            self.assertIs(error.value, value)
        for value in [None, True, (), [], "spell", list(good), good[:4], good + (0,), {}, PROGRAM]:
            self.assertIs(is_step(EMPTY, 1, body, value), False)

    def test_the_first_wrong_argument(self):
        for function in [is_step, stepped]:
            self.assertIs(type(raised(lambda: function(None, None, None, None))), InvalidProgram)
            for many in [True, 4, -1, None]:
                self.assertIs(type(raised(lambda: function(EMPTY, many, None, None))), InvalidNumber)
            for body in [None, (), (A,), [None], [("call", "row", [])], [loop(M)], A]:
                error = raised(lambda: function(EMPTY, 1, body, None))
                self.assertIs(type(error), InvalidList)
                self.assertIs(error.value, body)
            self.assertIs(type(raised(lambda: function(PROGRAM, 1, [("call", "row", [N, N])], None))), InvalidList)
        self.assertIs(is_step(PROGRAM, 1, [("call", "main", [N, N])], None), False)

    def test_lists_belong_to_the_caller(self):
        body = [A, loop(N, B)]
        step = ("either", (), 0, [A], [("below", N, 1, [A], [A])])
        result = stepped(EMPTY, 1, body, step)
        self.assertFalse(same_list_twice(result))
        shared = [A]
        again = stepped(EMPTY, 1, body, ("either", (), 0, [A], [("below", N, 1, shared, shared)]))
        self.assertEqual(again, result)
        self.assertFalse(same_list_twice(again))
        spoil(result)
        self.assertEqual((body, step[3:], shared), ([A, loop(N, B)], ([A], [("below", N, 1, [A], [A])]), [A]))

    def test_depths_up_to_100(self):
        row = [A, B]
        for _ in range(99):
            row = [("below", ((0, 1), 0, 1), 5, row, [])]
        path = (0, 0) * 99
        step = ("spell", path, 0, [A, B], [AB])
        self.assertTrue(is_step(EMPTY, 1, row, step))
        result = stepped(EMPTY, 1, row, step)
        for _ in range(99):
            result = result[0][3]
        self.assertEqual(result, [AB])
        unroll = [("times", N, [])]
        for _ in range(98):
            unroll = [("below", ((0, 1), 0, 1), 5, unroll, [])]
        self.assertFalse(is_step(EMPTY, 1, unroll, ("unroll", (0, 0) * 98, 0, [("times", N, [])], [])))

    def test_at_the_limits(self):
        old, new = [loop(M, A), loop(M, A)], [loop(((0, 0, 4), 0, 2), A)]
        body = [("leaves", ((0, 1, 0), 0, 1), 0, 600, [], old)]
        step = ("sum", (0, 1), 0, old, new)
        self.assertTrue(is_step(EMPTY, 2, body, step))
        self.assertLess(seconds(lambda: is_step(EMPTY, 2, body, step)), SECONDS)
        old, new = [loop(((0, 1, 1), 0, 600), A)], [loop(((0, 2, 2), 0, 1200), A)]
        body = [("leaves", ((0, 1, 0), 0, 1), 0, 600, [], old)]
        step = ("sum", (0, 1), 0, old, new)
        self.assertTrue(is_step(EMPTY, 2, body, step))
        self.assertLess(seconds(lambda: is_step(EMPTY, 2, body, step)), SECONDS)
        wide = [loop(N, A)] * 2000
        self.assertLess(seconds(lambda: is_step(EMPTY, 1, wide, ("sum", (), 0, wide, [loop(((0, 2000), 0, 1), A)]))), SECONDS)


if __name__ == "__main__":
    unittest.main()
