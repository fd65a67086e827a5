"""Texts of tables, point [52]."""

import random
import unittest

from helpers import GREATEST, SECONDS, raised, random_pieces, seconds
from openloops.errors import InvalidLines, InvalidPiece, InvalidPieces, TooLong, TooMany
from openloops.grids import Grid, classes
from openloops.tables import CaseTable
from openloops.tableviews import table_of
from openloops.tabletexts import read_table, table_text
from openloops.texts import OpenText


def random_table(chance):
    many = chance.randint(0, 3)
    grid = Grid([(chance.randint(0, 2), chance.randint(1, 2)) for _ in range(many)])
    return CaseTable(grid, [OpenText(many, random_pieces(chance, many, chance.randint(0, 4))) for _ in classes(grid)])


def pieces_of(case, many=2):
    """Return the pieces of a table with one case."""
    return read_table(f"table {many}\nlimits {'0 1 ' * many}\n{case}").texts()[0].pieces()


class Written(unittest.TestCase):
    def test_tables_for_each_number_of_unknowns(self):
        self.assertEqual(table_text(table_of(OpenText(0, [("ab", (3,))]))), "table 0\nlimits\ncase ababab\n")
        self.assertEqual(table_text(table_of(OpenText(0, []))), "table 0\nlimits\ncase\n")
        text = OpenText(3, [("x", (1, 0, 0, 0)), ("ba", (0, 2, 1, 0)), ("b", (2, 0, 0, 10))])
        self.assertEqual(table_text(table_of(text)), "table 3\nlimits 0 1 0 1 0 1\ncase x ba*2n0+n1 b*10n2 bb\n")

    def test_a_case_for_each_class_in_order(self):
        table = CaseTable(Grid([(1, 1), (0, 2)]), [OpenText(2, [("a", (at, 0, 0))]) for at in range(4)])
        self.assertEqual(table_text(table), "table 2\nlimits 1 1 0 2\ncase\ncase a\ncase aa\ncase aaa\n")


class Read(unittest.TestCase):
    def test_tables_are_read_back(self):
        for seed in range(150):
            table = random_table(random.Random(seed))
            self.assertEqual(read_table(table_text(table)), table)

    def test_blanks_remarks_and_lines_without_a_word(self):
        for seed in range(60):
            chance = random.Random(seed)
            table = random_table(chance)
            text = ""
            for line in table_text(table).split("\n")[:-1]:
                text += chance.choice(["", "\n", "  # case\n"]) + "  " * chance.randint(0, 2)
                text += line.replace(" ", "   ") + chance.choice(["", " ", "# more", " #"]) + "\n"
            self.assertEqual(read_table(text), table)
            self.assertEqual(read_table(text[:-1]), table)

    def test_any_grid_and_any_pieces(self):
        self.assertEqual(read_table("table 1\nlimits 2 3\ncase\ncase\ncase\ncase\ncase"), table_of(OpenText(1, [])))
        self.assertEqual(pieces_of("case ab*1 ab*1+1 c*0 abab*1+2n0 x*n1+0n0"),
                         [("ab", (0, 4, 0)), ("ababababab", (1, 0, 0)), ("x", (0, 0, 1))])
        self.assertEqual(pieces_of("case a a a"), [("aaa", (1, 0, 0))])
        self.assertEqual(pieces_of("case a*0+0n0+0n1"), [])
        self.assertEqual(pieces_of(f"case a*{GREATEST}n0+n0"), [("a", (0, GREATEST + 1, 0))])

    def test_texts_that_tell_no_table(self):
        good = "table 1\nlimits 0 2\ncase a\ncase b*n0"
        self.assertIsNone(raised(lambda: read_table(good)))
        for old, new in [("table 1", "table"), ("table 1", "table 1 1"), ("table 1", "table 01"), ("table 1", "tables 1"),
                         ("table 1", "table 2"), ("table 1", "table n0"), ("table 1\n", ""), ("limits 0 2\n", ""),
                         ("limits 0 2", "limits 0"), ("limits 0 2", "limits 0 2 0 1"), ("limits 0 2", "limits 2 0"),
                         ("limits 0 2", "limits 0 02"), ("limits 0 2", "limits -1 3"), ("limits 0 2", "limit 0 2"),
                         ("limits 0 2", "limits 1 2"), ("case a\n", ""), ("case a", "case a\ncase a"), ("case a", "a"),
                         ("case a", "case A"), ("case a", "case a b1"), ("case a", "case 1"), ("case a", "case *2"),
                         ("case a", "case a*"), ("case a", "case a**2"), ("case a", "case a*2*2"), ("case a", "case a*02"),
                         ("case a", "case a*n1"), ("case a", "case a*0n1"), ("case a", "case a*n0-1"), ("case a", "case a*n0-0"),
                         ("case a", "case a*(n0)/1"), ("case a", "case a *2"), ("case a", "case a* 2"), ("case a", "case\ta"),
                         ("case a", "case a\t"), ("case a", "case a*+2"), ("table 1\nlimits 0 2", "limits 0 2\ntable 1"),
                         ("limits 0 2\ncase a", "case a\nlimits 0 2"), ("case a", "end")]:
            text = good.replace(old, new, 1)
            error = raised(lambda: read_table(text))
            self.assertIsInstance(error, InvalidLines, text)
            self.assertIs(error.value, text)
        for many in ["4", "10", str(GREATEST)]:
            text = f"table {many}\nlimits 0 1 0 1 0 1 0 1\ncase"
            self.assertIsInstance(raised(lambda: read_table(text)), InvalidLines)

    def test_the_errors_of_the_grid_the_texts_and_the_table(self):
        text = "table 1\nlimits 0 601\n" + "case\n" * 601
        self.assertIsInstance(raised(lambda: read_table(text)), TooMany)
        self.assertEqual(raised(lambda: read_table(text)).value, 601)
        self.assertIsInstance(raised(lambda: read_table(text + "case\n")), InvalidLines)
        self.assertIsInstance(raised(lambda: read_table(f"table 1\nlimits {GREATEST} 1\ncase")), InvalidLines)
        self.assertIsNone(raised(lambda: read_table("table 1\nlimits 0 600\n" + "case\n" * 600)))
        front = "table 1\nlimits 0 2\n"
        error = raised(lambda: read_table(front + "case " + "a" * 2001 + "\ncase " + "b " * 5001))
        self.assertIsInstance(error, InvalidPiece)
        self.assertEqual(error.value, ("a" * 2001, (1, 0)))
        error = raised(lambda: read_table(front + "case a\ncase " + "b " * 5001))
        self.assertIsInstance(error, InvalidPieces)
        error = raised(lambda: read_table(front + "case a\ncase b*2001"))
        self.assertIsInstance(error, TooLong)
        self.assertEqual(error.value, 2001)
        # An error of a case comes ahead of those of the table.
        wide = "table 2\nlimits 0 1 300 1\n" + "case\n" * 300
        error = raised(lambda: read_table(wide + "case a*2001"))
        self.assertIsInstance(error, TooLong)
        error = raised(lambda: read_table(wide + "case a"))
        self.assertIsInstance(error, TooMany)
        self.assertEqual(error.value, 301 * 301)

    def test_limits(self):
        table = CaseTable(Grid([(0, 600)]), [OpenText(1, [("ab", (0, 1)), ("c", (at, at))] * 5) for at in range(100)] * 6)
        self.assertLess(seconds(lambda: read_table(table_text(table))), SECONDS)
        long = table_of(OpenText(1, [("ab", (0, 1)), ("c", (0, 1))] * 666))
        self.assertEqual(read_table(table_text(long)), long)


if __name__ == "__main__":
    unittest.main()
