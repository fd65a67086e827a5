"""Point [30]: running."""

import random
import unittest

from helpers import BIG, GREATEST, PROGRAM, SECONDS, cube, raised, seconds
from openloops.errors import InvalidNumber, InvalidPoint, InvalidProgram, InvalidWord, TooLong, UnknownPart
from openloops.programs import Program
from openloops.running import run, run_length, run_letter, run_letters, run_part
from walking import N, random_program, walk_part

SQUARE = Program([("main", 1, [("times", N, [("times", N, [("write", "a")]), ("write", "b")])])])


def one(many, body):
    """Return a program with one part."""
    return Program([("main", many, body)])


class Running(unittest.TestCase):
    def test_examples(self):
        self.assertEqual([run(PROGRAM, "main", [3, 1]), run(PROGRAM, "main", [1, 9]), run(PROGRAM, "main", [2, 0]),
                          run_length(PROGRAM, "main", [10 ** 20, 5])], ["abab", "x", "", 200000000000000000006])
        self.assertEqual([run(SQUARE, "main", [2]), run_length(SQUARE, "main", [10 ** 20]),
                          run_letters(SQUARE, "main", [10 ** 20], "b"), run_letter(SQUARE, "main", [10 ** 20], 10 ** 20)],
                         ["aabaab", 10000000000000000000100000000000000000000, 100000000000000000000, "b"])
        self.assertEqual(run_part(SQUARE, "main", [10 ** 20], 2 * 10 ** 20, 2 * 10 ** 20 + 3), "aba")

    def test_what_a_walk_through_the_statements_writes(self):
        chance, letters = random.Random(30), 0
        for turn in range(150):
            many = turn % 4
            program = random_program(chance, [1, chance.randint(0, 2), many], 3)
            for point in chance.sample(cube(many, 3), min(4, 4 ** many)):
                word = walk_part(program, "c", point)
                if len(word) > 2000:
                    continue
                self.assertEqual(run(program, "c", point), word)
                self.assertEqual(run_length(program, "c", point), len(word))
                for letter in "abz":
                    self.assertEqual(run_letters(program, "c", point, letter), word.count(letter))
                for at in range(min(len(word), 50)):
                    self.assertEqual(run_letter(program, "c", point, at), word[at])
                for _ in range(10):
                    low = chance.randint(0, len(word))
                    high = chance.randint(low, len(word))
                    self.assertEqual(run_part(program, "c", point, low, high), word[low:high])
                letters += len(word)
        self.assertGreater(letters, 5000)

    def test_each_statement(self):
        for body, words in [
                ([("write", "ab")], ["ab", "ab", "ab"]), ([], ["", "", ""]), ([("times", N, [("write", "ab")])], ["", "ab", "abab"]),
                ([("times", ((0, 1), 1, 1), [("write", "ab")])], ["", "", "ab"]),
                ([("below", N, 1, [("write", "a")], [("write", "b")])], ["a", "b", "b"]),
                ([("below", N, 0, [("write", "a")], [("write", "b")])], ["b", "b", "b"]),
                ([("leaves", N, 1, 2, [("write", "a")], [("write", "b")])], ["b", "a", "b"]),
                ([("leaves", N, 0, 1, [("write", "a")], [("write", "b")])], ["a", "a", "a"])]:
            self.assertEqual([run(one(1, body), "main", [count]) for count in range(3)], words)
        program = Program([("row", 2, [("times", ((0, 1, 0), 0, 1), [("write", "a")]), ("times", ((0, 0, 1), 0, 1), [("write", "b")])]),
                           ("main", 1, [("call", "row", [((1, 1), 0, 1), ((0, 1), 2, 2)])])])
        self.assertEqual([run(program, "main", [count]) for count in range(6)], ["a", "aa", "aaa", "aaaa", "aaaaab", "aaaaaab"])


class Long(unittest.TestCase):
    def test_words_up_to_20000_letters(self):
        program = one(1, [("times", N, [("write", "abcd")]), ("times", ((0, 1), 5000, 1), [("write", "x")])])
        self.assertEqual(run(program, "main", [5000]), "abcd" * 5000)
        error = raised(lambda: run(program, "main", [5001]))
        self.assertEqual((type(error), error.value), (TooLong, 20005))
        error = raised(lambda: run(one(0, [("times", ((20001,), 0, 1), [("write", "a")])]), "main", []))
        self.assertEqual((type(error), error.value), (TooLong, 20001))

    def test_loops_that_write_nothing(self):
        row = [("times", ((BIG,), 0, 1), [])]
        for _ in range(10):
            row = [("times", ((GREATEST,), 0, 1), row + [("below", ((0,), 0, 1), 0, [("write", "a")], [])])]
        program = one(0, row + [("write", "end")])
        self.assertLess(seconds(lambda: run(program, "main", [])), SECONDS)
        self.assertEqual([run(program, "main", []), run_length(program, "main", []), run_letter(program, "main", [], 2)],
                         ["end", 3, "d"])

    def test_great_counts_in_loops_within_loops(self):
        row = [("write", "ab")]
        for _ in range(11):
            row = [("times", N, row + [("write", "c")])]
        program, total, letters = one(1, row), 2, 0
        for _ in range(11):
            total, letters = (total + 1) * BIG, (letters + 1) * BIG
        self.assertEqual([run_length(program, "main", [BIG]), run_letters(program, "main", [BIG], "c"),
                          run_letters(program, "main", [BIG], "b")], [total, letters, BIG ** 11])
        self.assertEqual([run_letter(program, "main", [BIG], at) for at in [0, 1, 2, 3, total - 1, total - 12, total - 13]],
                         ["a", "b", "c", "a", "c", "b", "a"])
        self.assertEqual(run_part(program, "main", [BIG], total - 15, total), "bcabc" + "c" * 10)
        self.assertEqual(run_part(program, "main", [BIG], 3 * BIG - 3, 3 * BIG + 4), "abccabc")
        self.assertEqual(run_part(program, "main", [BIG], 0, 20000), ("abc" * 7000)[:20000])
        self.assertEqual(run_part(program, "main", [BIG], total, total), "")
        for call in [lambda: run_part(program, "main", [BIG], total // 3, total // 3 + 20000),
                     lambda: run_letter(program, "main", [BIG], total // 7)]:
            self.assertLess(seconds(call), SECONDS)

    def test_parts_of_long_words(self):
        program = one(1, [("write", "x"), ("times", N, [("write", "abc"), ("times", ((3, 0), 0, 1), [("write", "de")])]), ("write", "y")])
        for count in [0, 1, 5, 40]:
            word = "x" + "abcdedede" * count + "y"
            for low in range(0, len(word) + 1, 3):
                for high in range(low, len(word) + 1, 5):
                    self.assertEqual(run_part(program, "main", [count], low, high), word[low:high])

    def test_at_the_limits(self):
        wide = one(3, [("times", ((0, 1, 1, 1), 0, 1), [("write", "a" * 40)])] * 2500)
        for call in [lambda: run_length(wide, "main", [BIG, BIG, BIG]), lambda: run_letters(wide, "main", [BIG] * 3, "a"),
                     lambda: run_letter(wide, "main", [BIG] * 3, 10 ** 30), lambda: run_part(wide, "main", [BIG] * 3, 10 ** 30, 10 ** 30 + 20000),
                     lambda: run(wide, "main", [0, 0, 0])]:
            self.assertLess(seconds(call), SECONDS)


class Wrong(unittest.TestCase):
    def test_letters_and_numbers(self):
        for at in [4, -1, True, None, "1", BIG]:
            error = raised(lambda: run_letter(PROGRAM, "main", [3, 1], at))
            self.assertIs(type(error), InvalidNumber)
            self.assertIs(error.value, at)
        for letter in ["", "ab", "A", None, 1]:
            self.assertIs(type(raised(lambda: run_letters(PROGRAM, "main", [3, 1], letter))), InvalidWord)
        for low, high, thing in [(5, None, 5), (-1, 0, -1), (True, 2, True), (2, 1, 1), (2, 5, 5), (2, True, True), (2, -1, -1), (0, None, None)]:
            error = raised(lambda: run_part(PROGRAM, "main", [3, 1], low, high))
            self.assertEqual((type(error), error.value), (InvalidNumber, thing))
            self.assertIs(error.value, thing)
        self.assertEqual([run_part(PROGRAM, "main", [3, 1], 4, 4), run_part(PROGRAM, "main", [3, 1], 0, 4)], ["", "abab"])

    def test_parts_that_are_too_long(self):
        error = raised(lambda: run_part(SQUARE, "main", [BIG], 5, 20006))
        self.assertEqual((type(error), error.value), (TooLong, 20001))
        self.assertEqual(len(run_part(SQUARE, "main", [BIG], 5, 20005)), 20000)

    def test_the_first_wrong_argument(self):
        for function, rest in [(run, []), (run_length, []), (run_letter, [None]), (run_letters, [None]), (run_part, [None, None])]:
            self.assertIs(type(raised(lambda: function(None, None, None, *rest))), InvalidProgram)
            for name in ["none", None, ["main"], True, "", "Main"]:
                error = raised(lambda: function(PROGRAM, name, None, *rest))
                self.assertIs(type(error), UnknownPart)
                self.assertIs(error.value, name)
            for point in [[1], (1, 2), [1, -1], [True, 1], None, [1, 2, 3]]:
                self.assertIs(type(raised(lambda: function(PROGRAM, "main", point, *rest))), InvalidPoint)
        self.assertIs(type(raised(lambda: run(Program([]), "main", []))), UnknownPart)


if __name__ == "__main__":
    unittest.main()
