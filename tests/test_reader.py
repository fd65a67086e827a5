"""Texts of programs as they are read, points [48] to [50]."""

import random
import unittest

from helpers import GREATEST, SECONDS, raised, seconds
from openloops.errors import InvalidLines
from openloops.printer import program_text
from openloops.programs import Program
from openloops.reader import read_program, wrong_line
from telling import loose_text, plain_read, plain_wrong_line, spoilt_text
from walking import N, nest, random_program

TAIL = Program([("tail", 1, [("times", N, [("write", "ab")])])])


def amount_of(word, many=2):
    """Return the amount that is read of a word, None if it is not read."""
    text = f"part main {many}\ntimes {word}\nend\nend\n"
    if raised(lambda: read_program(text)) is not None:
        return None
    return read_program(text).parts()[0][2][0][1]


def random_programs(how_many, depth=3):
    for seed in range(how_many):
        chance = random.Random(seed)
        yield chance, random_program(chance, [chance.randint(0, 3) for _ in range(chance.randint(1, 3))], depth)


class Read(unittest.TestCase):
    def test_programs_are_read_back(self):
        for chance, program in random_programs(150, 4):
            self.assertEqual(read_program(program_text(program)), program)
            for _ in range(3):
                text = loose_text(chance, program)
                self.assertEqual(read_program(text), program, text)
                self.assertIsNone(wrong_line(text))

    def test_texts_of_no_lines(self):
        for text in ["", "\n", "\n\n  \n", "# end", "   # end\n#\n", " "]:
            self.assertEqual(read_program(text), Program([]))
            self.assertIsNone(wrong_line(text))

    def test_lines_without_a_word_remarks_and_a_last_line_without_its_end(self):
        text = "part tail 1#end\n\n  #\ttabs may stand in remarks\n times  n0   # twice # more\nwrite ab\nend\nend"
        self.assertEqual(read_program(text), TAIL)
        self.assertEqual(read_program(text + "\n"), TAIL)
        self.assertEqual(read_program(text + "\n\n \n"), TAIL)
        self.assertEqual(read_program(text + "#"), TAIL)

    def test_a_blank_is_one_sign_alone(self):
        for text in ["part\ttail 1\nend", "part tail\t1\nend", "\tpart tail 1\nend", "part tail 1\n\t\nend", "part tail 1 \t\nend"]:
            self.assertIsInstance(raised(lambda: read_program(text)), InvalidLines)

    def test_an_empty_second_body(self):
        program = Program([("main", 1, [("below", N, 2, [], [])])])
        self.assertEqual(read_program("part main 1\nwhen n0 below 2\nelse\nend\nend"), program)
        self.assertEqual(read_program("part main 1\nwhen n0 below 2\nend\nend"), program)
        self.assertEqual(wrong_line("part main 1\nwhen n0 below 2\nelse\nelse\nend\nend"), 4)

    def test_parts_called_like_the_words_of_a_line(self):
        text = "part end 0\nwrite end\nend\npart call 0\ncall end\nend\npart else 1\ncall call\nend"
        parts = [("end", 0, [("write", "end")]), ("call", 0, [("call", "end", [])]), ("else", 1, [("call", "call", [])])]
        self.assertEqual(read_program(text), Program(parts))

    def test_the_error_holds_the_text(self):
        text = "".join(["part a", " 0\n"])
        self.assertIs(raised(lambda: read_program(text)).value, text)


class Amounts(unittest.TestCase):
    def test_amounts_that_are_read(self):
        big = GREATEST
        for word, amount in [("0", ((0, 0, 0), 0, 1)), ("n0", ((0, 1, 0), 0, 1)), ("0+1n1+n1", ((0, 0, 2), 0, 1)),
                             ("n1+n0+n1+3n0+1+2", ((3, 4, 2), 0, 1)), ("0n0", ((0, 0, 0), 0, 1)), ("n0-0", ((0, 1, 0), 0, 1)),
                             ("(n0)/1", ((0, 1, 0), 0, 1)), ("(n0-2)/3", ((0, 1, 0), 2, 3)), ("0-7", ((0, 0, 0), 7, 1)),
                             ("(0)/2", ((0, 0, 0), 0, 2)), (f"{big}n0+{big}-{big}", ((big, big, 0), big, 1)),
                             (f"(n1)/{big}", ((0, 0, 1), 0, big)), ("0+0+0n1", ((0, 0, 0), 0, 1)), ("10+n0", ((10, 1, 0), 0, 1))]:
            self.assertEqual(amount_of(word), amount)

    def test_amounts_that_are_not_read(self):
        for word in ["00", "01", "01n0", "n0+", "+n0", "n0++1", "n", "n2", "0n2", "n3", "n00", "n01", "n0n1", "2 n0", "n0 -1",
                     "-1", "-", "n0-", "n0-01", "n0-n1", "n0-1-1", "n0-1+1", "(n0)", "(n0", "n0)", "(n0)/", "(n0)/0",
                     "(n0)/01", "((n0)/2)/2", "(n0)/2+1", "(n0)/2-1", "n0/2", "(n0)2", "()/2", "(-1)/2", "()", "N0", "1e5",
                     "n0*2", "2*n0", "0x1", "1_0", f"00{GREATEST}"]:
            self.assertIsNone(amount_of(word), word)

    def test_only_unknowns_of_the_part(self):
        for many in range(4):
            for at in range(4):
                for word in [f"n{at}", f"0n{at}", f"(1+n{at}-1)/2"]:
                    self.assertEqual(amount_of(word, many) is not None, at < many, word)


class Lines(unittest.TestCase):
    def test_lines_that_no_text_has(self):
        rows = ["write", "write a b", "write A", "write a1", "write " + "a" * 41, "times", "times n0 n0", "when n0", "when n0 below",
                "when n0 below x", "when n0 below 1 2", "when n0 below 01", "when n0 leaves 1", "when n0 leaves 1 by",
                "when n0 leaves 2 by 2", "when n0 leaves 0 by 0", "when n0 leaves 0 at 2", "when n0 leaves 0 by 1 1",
                "when below 1", "call", "call none", "call main", "call low", "call low n0 n0", "call low n1", "call low x",
                "end end", "else", "else end", "part x 0", "part", "stop", "0", "when n0 leaves -1 by 2", "Write a"]
        for line in rows:
            text = f"part low 1\nend\npart main 1\nwrite a\n{line}\nend\nend"
            self.assertEqual(wrong_line(text), 5, line)
            self.assertIsInstance(raised(lambda: read_program(text)), InvalidLines)

    def test_first_lines_that_no_text_has(self):
        for line in ["part a", "part a 4", "part a 01", "part a -1", "part a n0", "part a 0 0", "part", "part A 0", "part 0 0",
                     "part " + "a" * 13 + " 0", "end", "else", "write a", "times 2", "call a", "when 1 below 1", "x"]:
            self.assertEqual(wrong_line("\n" + line + "\nend"), 2, line)

    def test_names_that_are_given_twice(self):
        self.assertEqual(wrong_line("part a 0\nend\npart a 1\nend"), 3)
        self.assertIsNone(wrong_line("part " + "a" * 12 + " 0\nend\npart " + "a" * 11 + " 1\nend"))

    def test_lines_that_are_missing_at_the_end(self):
        self.assertEqual([wrong_line(text) for text in ["part a 0", "part a 0\n", "part a 0\n\n", "part a 0\ntimes 2\nend"]],
                         [2, 2, 3, 4])

    def test_depths_of_12_and_13(self):
        text = program_text(Program([("main", 0, nest(12, ("write", "a")))]))
        self.assertIsNone(wrong_line(text))
        self.assertEqual(wrong_line(text.replace("write a", "times 2\nend")), None)
        self.assertEqual(wrong_line(text.replace("write a", "times 2\nwrite a\nend")), 14)
        low = Program([("low", 0, nest(4, ("write", "a")))])
        high = program_text(low) + program_text(Program([("high", 0, nest(8, ("write", "b")))]))
        self.assertIsNone(wrong_line(high.replace("write b", "call low")))
        deeper = program_text(low) + program_text(Program([("high", 0, nest(9, ("write", "b")))]))
        self.assertEqual(wrong_line(deeper.replace("write b", "call low")), 18 + 1)

    def test_weights_of_5000_and_5001(self):
        text = "part a 0\n" + "write a\n" * 5000 + "end\n"
        self.assertIsNone(wrong_line(text))
        self.assertEqual(wrong_line("part a 0\n" + "write a\n" * 5001 + "end\n"), 5002)
        heavy = "part a 0\n" + "write a\n" * 2499 + "end\npart b 0\ncall a\n"
        self.assertIsNone(wrong_line(heavy + "call a\nend"))
        self.assertEqual(wrong_line(heavy + "call a\nwrite b\nend"), 2505)
        self.assertEqual(wrong_line(heavy + "write b\ncall a\nend"), 2505)

    def test_12_parts_and_13(self):
        text = "".join(f"part {'a' * at} 0\nend\n" for at in range(1, 13))
        self.assertIsNone(wrong_line(text))
        self.assertEqual(wrong_line(text + "part b 0\nend"), 25)

    def test_the_first_line_with_which_no_text_goes_on(self):
        told = {}
        for chance, program in random_programs(120):
            for _ in range(8):
                text = spoilt_text(chance, program_text(program))
                line = plain_wrong_line(text)
                told[line is None] = told.get(line is None, 0) + 1
                self.assertEqual(wrong_line(text), line, text)
                if line is None:
                    self.assertEqual(read_program(text), plain_read(text))
                else:
                    self.assertIsInstance(raised(lambda: read_program(text)), InvalidLines)
        self.assertGreater(min(told.values()), 50)

    def test_long_texts(self):
        text = "part a 3\n" + "times 1+n0+n1+n2+1+n0+n1+n2-5 # remark\nend\n" * 4999 + "write a\nend\n"
        self.assertLess(seconds(lambda: read_program(text)), SECONDS)
        self.assertLess(seconds(lambda: wrong_line(text + "\n# more" * 50000)), SECONDS)


if __name__ == "__main__":
    unittest.main()
