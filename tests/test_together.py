"""That the modules go together: what is told of programs in one way is so in all others."""

import random
import unittest

from changing import calling_program, random_deed
from helpers import cube, raised, random_automaton, random_maker
from openloops.automata import accepts
from openloops.checked import accepted_points, checked, run_made_length, run_state
from openloops.compiled import compiled, program_of
from openloops.deeds import changed, is_deed
from openloops.derivations import derivation
from openloops.gathering import accepted_table, made_of_table
from openloops.lengths import length_points, letter_points
from openloops.makers import made_word
from openloops.mending import faults, mended
from openloops.pointsets import all_points, first_parting, one_point, other_points
from openloops.pointviews import first_point
from openloops.printer import program_text
from openloops.programs import Program
from openloops.reached import never_reached, one_way, trimmed
from openloops.reader import read_program
from openloops.rewriting import stepped
from openloops.running import run, run_length, run_letters
from openloops.tableviews import parting_tables, table_written
from openloops.tabletexts import read_table, table_text
from openloops.tracing import number_of_way, way_to, written_by
from openloops.workshop import Workshop
from walking import N, random_program


def compiled_cases(how_many):
    """Yield programs whose part `c` can be compiled, with its table and short points."""
    found, seed = 0, 0
    while found < how_many:
        seed += 1
        chance = random.Random(seed)
        program = random_program(chance, [chance.randint(0, 2) for _ in range(3)], 3)
        if raised(lambda: compiled(program, "c")) is None:
            found += 1
            table, many = compiled(program, "c"), program.parts()[-1][1]
            points = [point for point in cube(many, [0, 8, 3][many]) if run_length(program, "c", point) < 500]
            yield chance, program, table, points


class Together(unittest.TestCase):
    def test_trimmed_printed_read_and_compiled_again(self):
        for _, program, table, points in compiled_cases(60):
            short = read_program(program_text(trimmed(program, "c")))
            self.assertEqual(read_table(table_text(table)), table)
            again = program_of(table)
            for point in points:
                word = run(program, "c", point)
                self.assertEqual([run(short, "c", point), run(again, "main", point), table_written(table, point)], [word] * 3)
            if raised(lambda: compiled(short, "c")) is None:
                self.assertEqual(compiled(short, "c"), table)
            if raised(lambda: compiled(again, "main")) is None:
                self.assertEqual(compiled(read_program(program_text(again)), "main"), table)
                self.assertEqual(never_reached(trimmed(again, "main"), "main"), [])
                self.assertEqual(one_way(trimmed(again, "main"), "main"), [])

    def test_machines_ahead_and_behind(self):
        asked, made = 0, 0
        for chance, program, table, points in compiled_cases(80):
            automaton, maker = random_automaton(chance, 3), random_maker(chance, 3)
            if raised(lambda: [accepted_points(program, "c", automaton), accepted_table(table, automaton)]) is None:
                asked += 1
                accepted = accepted_points(program, "c", automaton)
                self.assertEqual(accepted, accepted_table(table, automaton))
                self.assertEqual(checked(program, "c", automaton), first_point(other_points(accepted)))
                self.assertEqual(checked(program, "c", automaton), first_parting(accepted, all_points(table.many())))
            if raised(lambda: program_of(made_of_table(table, maker))) is None:
                made += 1
                other = program_of(made_of_table(table, maker))
                for point in points:
                    word = made_word(maker, run(program, "c", point))
                    self.assertEqual(run(other, "main", point), word)
                    self.assertEqual(run_made_length(program, "c", point, maker), len(word))
                    self.assertEqual(run_state(other, "main", point, automaton) in automaton.ends(), accepts(automaton, word))
        self.assertGreater(min(asked, made), 30)

    def test_lengths_and_letters(self):
        for _, program, table, points in compiled_cases(60):
            for point in points[:5]:
                length, letters = run_length(program, "c", point), run_letters(program, "c", point, "b")
                if raised(lambda: length_points(table, one_point([length]))) is None:
                    self.assertTrue(point in length_points(table, one_point([length])))
                    self.assertFalse(point in length_points(table, one_point([length + 1])))
                if raised(lambda: letter_points(table, "b", one_point([letters]))) is None:
                    self.assertTrue(point in letter_points(table, "b", one_point([letters])))

    def test_deeds_and_what_is_told_of_the_programs_behind_them(self):
        for seed in range(60):
            chance = random.Random(seed)
            program = calling_program(seed)
            for _ in range(6):
                deed = random_deed(chance, program)
                if is_deed(program, deed):
                    other = changed(program, deed)
                    self.assertEqual(read_program(program_text(other)), other)
                    self.assertEqual([faults(program_text(other)), mended(program_text(other))], [[], program_text(other)])
                    program = other
            for name, many, _ in program.parts():
                for point in cube(many, [0, 2, 1, 1][many]):
                    length = run_length(program, name, point)
                    for at in range(0, length, 1 + length // 4):
                        way = way_to(program, name, point, at)
                        self.assertEqual(number_of_way(program, name, point, way), at)
                        for place, _ in way:
                            more = written_by(program, name, point, place, at + 1) - written_by(program, name, point, place, at)
                            self.assertEqual(more, 1)

    def test_steps_that_are_done_as_deeds(self):
        parts = [("one", 1, [("write", "a"), ("times", N, [("write", "ba")])]),
                 ("other", 1, [("times", N, [("write", "ab")]), ("write", "a")])]
        program = Program(parts)
        shop, body = Workshop(program), parts[0][2]
        for step in derivation(program, "one", "other"):
            _, path, start, old, new = step
            body = stepped(program, 1, body, step)
            shop.do(("splice", "one", path, start, len(old), new))
            self.assertEqual(shop.program.parts()[0][2], body)
            self.assertIsNone(parting_tables(compiled(shop.program, "one"), compiled(program, "one")))
        self.assertEqual(shop.program.parts()[0][2], parts[1][2])


if __name__ == "__main__":
    unittest.main()
