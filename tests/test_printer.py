"""Texts of programs as they are written, points [48] and [49]."""

import random
import unittest

from helpers import BIG, GREATEST, PROGRAM, SECONDS, raised, seconds
from openloops.errors import InvalidNumber, InvalidPlace
from openloops.printer import line_of, place_at, program_text
from openloops.programs import Program
from openloops.reader import read_program
from walking import M, N, all_places, nest, random_program


def lines_of(many, row):
    """Return the lines of a row of a program of one part."""
    return program_text(Program([("main", many, row)])).split("\n")[1:-2]


def amount_line(amount):
    return lines_of(len(amount[0]) - 1, [("times", amount, [])])[0]


class Amounts(unittest.TestCase):
    def test_forms(self):
        for form, text in [((2, 3, 1), "2+3n0+n1"), ((0, 0, 0), "0"), ((0, 0, 1), "n1"), ((0, 1, 0), "n0"), ((7,), "7"),
                           ((0,), "0"), ((1, 1, 1, 1), "1+n0+n1+n2"), ((0, 0, 0, 12), "12n2"), ((10, 0, 0, 10), "10+10n2"),
                           ((GREATEST, BIG, 1, 0), f"{GREATEST}+{BIG}n0+n1")]:
            self.assertEqual(amount_line((form, 0, 1)), "  times " + text)

    def test_amounts(self):
        for amount, text in [(((2, 3), 5, 1), "2+3n0-5"), (((2, 3), 5, 2), "(2+3n0-5)/2"), (((0, 1), 0, 2), "(n0)/2"),
                             (((0, 0), 0, 3), "(0)/3"), (((0, 0), 4, 1), "0-4"), (((0,), 0, 1), "0"),
                             (((1,), GREATEST, GREATEST), f"(1-{GREATEST})/{GREATEST}")]:
            self.assertEqual(amount_line(amount), "  times " + text)


class Lines(unittest.TestCase):
    def test_each_kind_of_statement(self):
        first = ((0, 1, 0), 0, 1)
        row = [("write", "ab"), ("times", first, [("write", "c"), ("times", M, [])]),
               ("below", first, 3, [("write", "d")], [("write", "e")]), ("below", M, 0, [], []),
               ("leaves", M, 1, 2, [], [("write", "f")]), ("call", "row", [first, ((1, 0, 2), 3, 4)])]
        program = Program([("row", 2, []), ("main", 2, row)])
        self.assertEqual(program_text(program).split("\n"),
                         ["part row 2", "end", "part main 2", "  write ab", "  times n0", "    write c", "    times n1",
                          "    end", "  end", "  when n0 below 3", "    write d", "  else", "    write e", "  end",
                          "  when n1 below 0", "  end", "  when n1 leaves 1 by 2", "  else", "    write f", "  end",
                          "  call row n0 (1+2n1-3)/4", "end", ""])

    def test_programs_without_parts_and_parts_without_statements(self):
        self.assertEqual(program_text(Program([])), "")
        self.assertEqual(program_text(Program([("a", 0, []), ("b", 3, [])])), "part a 0\nend\npart b 3\nend\n")

    def test_parts_called_like_the_words_of_a_line(self):
        parts = [("end", 0, [("write", "end")]), ("else", 0, [("call", "end", [])]), ("part", 1, []), ("by", 0, [])]
        program = Program(parts + [("write", 0, [("call", "part", [((7,), 0, 1)])])])
        text = "part end 0\n  write end\nend\npart else 0\n  call end\nend\npart part 1\nend\npart by 0\nend\n"
        self.assertEqual(program_text(program), text + "part write 0\n  call part 7\nend\n")
        self.assertEqual(read_program(program_text(program)), program)

    def test_margins_of_deep_rows(self):
        text = program_text(Program([("main", 0, nest(12, ("write", "a")))])).split("\n")
        self.assertEqual(text[12], " " * 24 + "write a")
        self.assertEqual(text[13], " " * 22 + "end")


class Places(unittest.TestCase):
    def test_there_and_back_for_each_statement_and_each_line(self):
        for seed in range(80):
            chance = random.Random(seed)
            program = random_program(chance, [chance.randint(0, 3) for _ in range(chance.randint(1, 4))], 4)
            lines = program_text(program).split("\n")[:-1]
            first = {}
            for at in range(1, len(lines) + 1):
                place = place_at(program, at)
                if place is None:
                    self.assertTrue(lines[at - 1].startswith("part ") or lines[at - 1] == "end")
                else:
                    self.assertEqual(lines[at - 1].strip().split(" ")[0] in ["end", "else"], place in first)
                    first.setdefault(place, at)
            self.assertEqual(sorted(first), sorted(place for place, _ in all_places(program)))
            statements = dict(all_places(program))
            for place, at in first.items():
                self.assertEqual(line_of(program, place), at)
                kind = statements[place][0]
                words = lines[at - 1].strip().split(" ")
                self.assertEqual(words[0], "when" if kind in ("below", "leaves") else kind)
                self.assertEqual(words[1], statements[place][1] if kind in ("write", "call") else words[1])
                self.assertEqual(len(lines[at - 1]) - len(lines[at - 1].strip()), len(place[1]) + 1)

    def test_the_lines_of_a_statement(self):
        row = [("times", N, [("write", "a")]), ("below", N, 1, [("write", "b")], [("write", "c")]), ("write", "d")]
        program = Program([("main", 1, row)])
        places = [None, ("main", (0,)), ("main", (0, 0, 0)), ("main", (0,)), ("main", (1,)), ("main", (1, 0, 0)),
                  ("main", (1,)), ("main", (1, 1, 0)), ("main", (1,)), ("main", (2,)), None]
        self.assertEqual([place_at(program, line) for line in range(1, 12)], places)
        self.assertEqual([line_of(program, ("main", path)) for path in [(0,), (0, 0, 0), (1,), (1, 1, 0), (2,)]],
                         [2, 3, 5, 8, 10])

    def test_wrong_lines_and_places(self):
        self.assertIsInstance(raised(lambda: place_at(Program([]), 1)), InvalidNumber)
        self.assertIsInstance(raised(lambda: place_at(PROGRAM, 13)), InvalidNumber)
        self.assertIsNone(place_at(PROGRAM, 12))
        self.assertIsInstance(raised(lambda: line_of(PROGRAM, ("main", (0, 0)))), InvalidPlace)
        self.assertIsInstance(raised(lambda: line_of(Program([]), ("main", (0,)))), InvalidPlace)

    def test_limits(self):
        program = Program([("abcdefghijkl"[at], 1, [("times", N, [("write", "ab")])] * 2500) for at in range(12)])
        for call in [lambda: program_text(program), lambda: line_of(program, ("l", (2499, 0, 0))),
                     lambda: place_at(program, 90000), lambda: read_program(program_text(program))]:
            self.assertLess(seconds(call), SECONDS)


if __name__ == "__main__":
    unittest.main()
