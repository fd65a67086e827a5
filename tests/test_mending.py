"""Faults of texts and mended texts, point [51]."""

import random
import unittest

from helpers import SECONDS, raised, seconds
from openloops.errors import InvalidLines
from openloops.mending import faults, mended
from openloops.printer import program_text
from openloops.programs import Program
from openloops.reader import read_program, wrong_line
from telling import loose_text, plain_kept, plain_read, spoilt_text
from walking import random_program

FRONT = "part low 1\nend\npart main 1\n"


def reason_of(line, front=FRONT):
    """Return the reason why a line is left out that stands behind others, None if it is not."""
    found = [reason for at, reason in faults(front + line + "\n") if reason != "open"]
    return found[0] if found else None


class Reasons(unittest.TestCase):
    def test_words(self):
        for line in ["stop", "write", "write a b", "write A", "write " + "a" * 41, "write a\tb", "times", "times x", "times n3",
                     "times 01", "times n0 n0", "times (n0)/0", "when n0", "when n0 below", "when n0 below n0", "when n0 above 1",
                     "when n0 leaves 1 by 1", "when n0 leaves 0 by 0", "when n0 leaves 0", "when n0 leaves 0 at 2", "call",
                     "call a1", "call " + "a" * 13, "call low x", "call low n3", "end end", "else else", "part a", "part a 4",
                     "part a1 0", "part a 0 0", "part " + "a" * 13 + " 0", "part a 00", "PART a 0", "0", "n0", "=", "write  "]:
            self.assertEqual(reason_of(line), "words", line)
            self.assertEqual(reason_of(line, ""), "words", line)

    def test_words_come_ahead_of_the_place(self):
        self.assertEqual(faults("write\nwrite a\n"), [(1, "words"), (2, "place")])
        self.assertEqual(reason_of("part main 4"), "words")
        self.assertEqual(reason_of("times n3", ""), "words")

    def test_place(self):
        for line in ["part a 0", "part low 1", "part main 1", "else"]:
            self.assertEqual(reason_of(line), "place", line)
        for line in ["write a", "times n0", "times n2", "when 0 below 1", "when 0 leaves 0 by 2", "call low", "call none", "else",
                     "end"]:
            self.assertEqual(reason_of(line, ""), "place", line)
            self.assertEqual(reason_of(line, "part low 1\nend\n"), "place", line)

    def test_where_else_may_stand(self):
        when = FRONT + "when n0 below 1\n"
        self.assertIsNone(reason_of("else", when))
        self.assertIsNone(reason_of("else", when + "write a\n"))
        self.assertEqual(reason_of("else", when + "else\n"), "place")
        self.assertEqual(reason_of("else", when + "times 2\n"), "place")
        self.assertEqual(reason_of("else", when + "end\n"), "place")
        self.assertIsNone(reason_of("else", when + "times 2\nend\n"))
        self.assertIsNone(reason_of("else", when + "else\nwhen n0 leaves 0 by 2\n"))

    def test_place_comes_ahead_of_the_name(self):
        self.assertEqual(reason_of("part low 0"), "place")
        self.assertEqual(reason_of("call none 1", ""), "place")

    def test_name(self):
        self.assertEqual(reason_of("part low 0", "part low 1\nend\n"), "name")
        self.assertEqual(reason_of("part main 0", FRONT + "end\n"), "name")
        self.assertEqual(reason_of("call none"), "name")
        self.assertEqual(reason_of("call main n0"), "name")
        self.assertEqual(reason_of("call later"), "name")
        self.assertIsNone(reason_of("call low n0"))

    def test_lines_that_are_left_out_give_no_names(self):
        text = "part a 0\npart b 0\nend\npart b 0\nend\n"
        self.assertEqual(faults(text), [(2, "place")])
        self.assertEqual(mended(text), "part a 0\nend\npart b 0\nend\n")

    def test_name_comes_ahead_of_unknown(self):
        self.assertEqual(reason_of("call none n2"), "name")
        self.assertEqual(reason_of("call main n2 n2"), "name")

    def test_unknown(self):
        for line in ["times n1", "times 0n1", "times n0+0n2", "when n1 below 1", "when n2 leaves 0 by 2", "call low n1",
                     "call low", "call low n0 n0", "call low n2 n2", "times (0n1-1)/2"]:
            self.assertEqual(reason_of(line), "unknown", line)
        self.assertEqual(reason_of("times n0", "part main 0\n"), "unknown")
        self.assertIsNone(reason_of("times n2", "part main 3\n"))

    def test_unknown_comes_ahead_of_the_limit(self):
        deep = "part main 1\n" + "times 2\n" * 12
        self.assertEqual([reason_of("times n1", deep), reason_of("times n0", deep)], ["unknown", "limit"])
        full = "part low 1\nend\npart main 1\n" + "write a\n" * 5000
        self.assertEqual([reason_of("call low", full), reason_of("call low 1", full)], ["unknown", "limit"])

    def test_limits_of_the_depth(self):
        text = "part main 0\n" + "times 2\n" * 13 + "write a\n" + "end\n" * 13
        self.assertEqual(faults(text), [(14, "limit"), (15, "limit")])
        self.assertEqual(read_program(mended(text)).parts(), [("main", 0, loops(12))])
        low = "part low 0\ntimes 2\nwrite a\nend\nend\npart main 0\n"
        self.assertEqual(reason_of("call low", low + "times 2\n" * 10), "limit")
        self.assertIsNone(reason_of("call low", low + "times 2\n" * 9))

    def test_limits_of_the_weight(self):
        text = "part main 0\n" + "write a\n" * 5002 + "times 2\nend\nend\n"
        self.assertEqual(faults(text), [(5002, "limit"), (5003, "limit"), (5004, "limit"), (5006, "place")])
        low = "part low 0\n" + "write a\n" * 2500 + "end\npart main 0\n"
        self.assertEqual(faults(low + "call low\n" * 3 + "write b\n" * 2 + "end\n"), [(2505, "limit"), (2506, "limit")])

    def test_the_number_of_parts(self):
        text = "".join(f"part {'a' * at} 0\nend\n" for at in range(1, 13))
        self.assertEqual(faults(text + "part b 0\nwrite a\nend"), [(25, "limit"), (26, "place"), (27, "place")])
        self.assertEqual(reason_of("part a 0", text), "name")
        self.assertEqual(mended(text + "part b 0\nwrite a\nend"), text)


def loops(many):
    """Return loops within one another, with nothing innermost."""
    row = []
    for _ in range(many):
        row = [("times", ((2,), 0, 1), row)]
    return row


class Open(unittest.TestCase):
    def test_lines_that_are_missing_at_the_end(self):
        self.assertEqual(faults("part a 0"), [(2, "open")])
        self.assertEqual(faults("part a 0\n\n# more\n"), [(4, "open")])
        self.assertEqual(faults("part a 0\ntimes 2\nwhen 1 below 2\nelse\n"), [(5, "open")] * 3)
        self.assertEqual(faults("part a 0\nodd\n"), [(2, "words"), (3, "open")])
        self.assertEqual(mended("part a 0\ntimes 2\nwhen 1 below 2\nelse\nwrite b"),
                         "part a 0\n  times 2\n    when 1 below 2\n    else\n      write b\n    end\n  end\nend\n")

    def test_texts_of_no_lines(self):
        for text in ["", "\n", "# part a 0\n"]:
            self.assertEqual([faults(text), mended(text)], [[], ""])
        self.assertEqual([faults("odd"), mended("odd")], [[(1, "words")], ""])


class Any(unittest.TestCase):
    def cases(self):
        for seed in range(60):
            chance = random.Random(seed)
            program = random_program(chance, [chance.randint(0, 3) for _ in range(chance.randint(1, 3))], 3)
            text = program_text(program)
            for _ in range(5):
                text = spoilt_text(chance, text)
                yield text

    def test_just_those_lines_are_left_out_that_no_text_goes_on_with(self):
        for text in self.cases():
            if len(text.split("\n")) < 40:
                left, kept = plain_kept(text)
                found = faults(text)
                self.assertEqual([line for line, reason in found if reason != "open"], left, text)
                missing = len([line for line, reason in found if reason == "open"])
                program = plain_read("\n".join(kept + ["end"] * missing))
                self.assertIsNotNone(program)
                self.assertEqual(mended(text), program_text(program))

    def test_a_mended_text_is_read_and_what_is_read_has_no_faults(self):
        for text in self.cases():
            self.assertIsNone(wrong_line(mended(text)))
            self.assertEqual(faults(mended(text)), [])
            self.assertEqual(mended(mended(text)), mended(text))
            if wrong_line(text) is None:
                self.assertEqual(faults(text), [])
                self.assertEqual(read_program(mended(text)), read_program(text))
            else:
                self.assertEqual(faults(text)[0][0], wrong_line(text))

    def test_texts_that_are_written_loosely(self):
        for seed in range(60):
            chance = random.Random(seed)
            program = random_program(chance, [chance.randint(0, 3) for _ in range(3)], 3)
            text = loose_text(chance, program)
            self.assertEqual([faults(text), mended(text)], [[], program_text(program)])

    def test_any_string(self):
        for text in ["\t", "%", "part", "end\n" * 5, "part a 0\nend#\nend", "~~~\n((()))\n", "else", "a\n\nb", "write a#\nwrite b"]:
            self.assertEqual(mended(text), mended(mended(text)))
        self.assertIsInstance(raised(lambda: faults(None)), InvalidLines)
        self.assertIsInstance(raised(lambda: mended(["part a 0"])), InvalidLines)

    def test_parts_that_are_kept_make_a_program(self):
        text = "end\npart a 1\ncall a 1\nwrite b\nend\nend\npart a 0\nwrite c\npart c 0\ncall a n0\ncall a 7\nend"
        self.assertEqual(faults(text), [(1, "place"), (3, "name"), (6, "place"), (7, "name"), (8, "place"), (10, "unknown")])
        parts = [("a", 1, [("write", "b")]), ("c", 0, [("call", "a", [((7,), 0, 1)])])]
        self.assertEqual(read_program(mended(text)), Program(parts))

    def test_long_texts(self):
        text = ("part a 0\n" + "times 2\nodd\nend\n" * 5001) * 3
        self.assertLess(seconds(lambda: faults(text)), SECONDS)
        self.assertLess(seconds(lambda: mended(text)), SECONDS)


if __name__ == "__main__":
    unittest.main()
