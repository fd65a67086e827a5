"""Point [31]: tables of cases."""

import itertools
import random
import unittest

from helpers import BIG, SECONDS, TABLE, TEXT, cube, plain_value, raised, random_pieces, seconds, spoil
from openloops.errors import InvalidGrid, InvalidList, TooLong, TooMany
from openloops.grids import Grid, class_forms, class_of, classes, led_forms, place_in_class
from openloops.tables import CaseTable
from openloops.texts import OpenText, replaced, written

ONE = (Grid([(0, 1), (1, 1)]),
       [OpenText(2, [("caca", (1, 0, 0)), ("b", (0, 1, 0)), ("ca", (0, 1, 0))]),
        OpenText(2, [("caca", (1, 0, 0)), ("b", (0, 1, 0)), ("ca", (0, 1, 1)), ("d", (1, 0, 1)), ("ca", (1, 0, 0))])])
OTHER = (Grid([(1, 1), (0, 1)]),
         [OpenText(2, [("ca", (1, 0, 1)), ("d", (0, 0, 1)), ("ca", (1, 0, 0))]),
          OpenText(2, [("caca", (1, 0, 0)), ("b", (1, 1, 0)), ("ca", (0, 1, 1)), ("d", (0, 0, 1)), ("ca", (1, 0, 0))])])


def plain_word_at(grid, texts, point):
    """Return what texts for the classes of a grid write at a point."""
    place = place_in_class(grid, point)
    return written(texts[classes(grid).index(class_of(grid, point))], place)


def refined(grid, texts, limits):
    """Return a finer grid and the texts for it that write the same."""
    finer = Grid(limits)
    rows = classes(grid)
    return finer, [replaced(texts[rows.index(class_of(grid, point))], grid.many(), led_forms(finer, point, grid))
                   for point in classes(finer)]


def random_cases(chance, many, most=2):
    """Return a grid and texts for its classes, some of them alike."""
    limits = [(chance.randint(0, most), chance.randint(1, most)) for _ in range(many)]
    grid = Grid(limits)
    kinds = [OpenText(many, random_pieces(chance, many, chance.randint(0, 2), longest=2, most=1)) for _ in range(2)]
    whole = OpenText(many, random_pieces(chance, many, 3, longest=2, most=1))
    texts = []
    for point in classes(grid):
        led = replaced(whole, many, class_forms(grid, point))
        texts.append(led if chance.random() < 0.8 else chance.choice(kinds))
    return grid, texts


def splits(word, parts):
    """Yield all ways to cut a word into so many parts."""
    for cuts in itertools.combinations_with_replacement(range(len(word) + 1), parts - 1):
        ends = (0,) + cuts + (len(word),)
        yield [word[low:high] for low, high in zip(ends, ends[1:])]


def some_text_writes(words):
    """Tell whether some open text for one unknown, with at most two powers, writes words at 0, 1, 2 and so on."""
    growth = len(words[1]) - len(words[0])
    if growth < 0 or any(len(word) != len(words[0]) + growth * at for at, word in enumerate(words)):
        return False
    if growth == 0:
        return all(word == words[0] for word in words)
    for left, middle, right in splits(words[0], 3):
        for one in range(growth + 1):
            first = words[1][len(left):len(left) + one]
            behind = len(left) + one + len(middle)
            second = words[1][behind:behind + growth - one]
            if all(word == left + first * at + middle + second * at + right for at, word in enumerate(words)):
                return True
    return False


def serves(word_at, limits, most):
    """Tell whether a grid for one unknown serves, as far as words at small points and two powers tell."""
    (threshold, period), = limits
    return all(some_text_writes([word_at([least + period * at]) for at in range((most - least) // period + 1)])
               for least in range(threshold, threshold + period))


class Tables(unittest.TestCase):
    def test_example(self):
        one, other = CaseTable(*ONE), CaseTable(*OTHER)
        self.assertEqual(one, other)
        self.assertEqual(other.grid().limits(), [(0, 1), (1, 1)])
        self.assertEqual(other.texts(), ONE[1])
        # The other grid serves too, but the one with both thresholds 0 does not.
        self.assertEqual([text.many() for text in one.texts()], [2, 2])
        self.assertEqual(one.many(), 2)

    def test_writes_the_same_on_its_own_grid(self):
        chance = random.Random(31)
        for turn in range(200):
            many = turn % 4
            grid, texts = random_cases(chance, many)
            table = CaseTable(grid, texts)
            for point in cube(many, [0, 9, 4, 3][many]):
                self.assertEqual(plain_word_at(table.grid(), table.texts(), point), plain_word_at(grid, texts, point))
            for point, text in zip(classes(table.grid()), table.texts()):
                for at, (count, limit) in enumerate(zip(point, table.grid().limits())):
                    if count < limit[0]:
                        self.assertFalse(any(form[at + 1] for _, form in text.pieces()))

    def test_equal_from_whatever_finer_grid(self):
        chance = random.Random(310)
        for turn in range(200):
            many = 1 + turn % 3
            grid, texts = random_cases(chance, many)
            table = CaseTable(grid, texts)
            most = [0, 6, 3, 2][many]
            for _ in range(2):
                limits = [(low + chance.randint(0, most), period * chance.randint(1, most)) for low, period in grid.limits()]
                finer, led = refined(grid, texts, limits)
                if raised(lambda: CaseTable(finer, led)) is None:
                    again = CaseTable(finer, led)
                    self.assertEqual((again.grid().limits(), again.texts()), (table.grid().limits(), table.texts()))
                    self.assertTrue(again == table)

    def test_unlike_tables_write_unlike_words(self):
        chance, equal = random.Random(311), 0
        for turn in range(400):
            many = 1 + turn % 2
            cases = random_cases(chance, many)
            other = random_cases(chance, many)
            if chance.random() < 0.6:
                place = chance.randrange(len(cases[1]))
                texts = list(cases[1])
                texts[place] = chance.choice([texts[place], texts[0], OpenText(many, [])])
                other = (cases[0], texts)
            same = all(plain_word_at(*cases, point) == plain_word_at(*other, point) for point in cube(many, [0, 30, 8][many]))
            self.assertIs(CaseTable(*cases) == CaseTable(*other), same)
            self.assertIs(CaseTable(*cases) != CaseTable(*other), not same)
            equal += same
        self.assertGreater(equal, 50)

    def test_the_least_grid_for_one_unknown(self):
        chance, coarser = random.Random(312), 0
        for _ in range(150):
            grid, texts = random_cases(chance, 1, 3)
            # Texts with more than two powers are not told by plain counting here.
            if any(len([form for _, form in text.pieces() if form[1]]) > 2 for text in texts):
                continue
            table = CaseTable(grid, texts)
            (threshold, period), = table.grid().limits()
            words = {count: plain_word_at(grid, texts, [count]) for count in range(40)}

            def word_at(point):
                return words[point[0]]

            fitting = [(low, step) for low in range(6) for step in range(1, 7) if serves(word_at, [(low, step)], 39)]
            if (threshold, period) in fitting:
                self.assertEqual(min(low for low, _ in fitting), threshold)
                self.assertEqual(min(step for _, step in fitting), period)
                coarser += (threshold, period) != grid.limits()[0]
        self.assertGreater(coarser, 30)

    def test_thresholds_where_there_is_no_least_one(self):
        for grid, texts in [ONE, OTHER]:
            for limits in [[(1, 1), (1, 1)], [(2, 1), (2, 1)], [(1, 2), (3, 1)], [(3, 1), (1, 3)]]:
                finer, led = refined(grid, texts, limits)
                self.assertEqual(CaseTable(finer, led).grid().limits(), [(0, 1), (1, 1)])

    def test_the_first_unknown_gets_the_least_threshold(self):
        # The same table with its unknowns exchanged: now n0 alone is lowered to 0, and n1 keeps 1.
        def exchanged(form):
            return (form[0], form[2], form[1])

        texts = [OpenText(2, [(word, exchanged(form)) for word, form in text.pieces()]) for text in ONE[1]]
        table = CaseTable(Grid([(1, 1), (0, 1)]), texts)
        self.assertEqual(table.grid().limits(), [(0, 1), (1, 1)])
        self.assertNotEqual(table, CaseTable(*ONE))

    def test_a_third_unknown(self):
        def wider(form):
            return (form[0], 0, form[1], form[2])

        texts = [OpenText(3, [("e", (0, 1, 0, 0))] + [(word, wider(form)) for word, form in text.pieces()]) for text in ONE[1]]
        table = CaseTable(Grid([(0, 1), (0, 1), (1, 1)]), texts)
        self.assertEqual(table.grid().limits(), [(0, 1), (0, 1), (1, 1)])
        finer, led = refined(Grid([(0, 1), (0, 1), (1, 1)]), texts, [(2, 2), (1, 1), (2, 1)])
        self.assertEqual(CaseTable(finer, led), table)


class Least(unittest.TestCase):
    def test_periods(self):
        texts = [OpenText(1, [("ab", (count, 12))]) for count in range(12)]
        table = CaseTable(Grid([(0, 12)]), texts)
        self.assertEqual((table.grid().limits(), table.texts()), ([(0, 1)], [OpenText(1, [("ab", (0, 1))])]))
        texts[6] = OpenText(1, [("ba", (6, 12))])
        self.assertEqual(CaseTable(Grid([(0, 12)]), texts).grid().limits(), [(0, 12)])
        halves = [OpenText(1, [("a", (count // 2, 3))]) for count in range(6)]
        self.assertEqual(CaseTable(Grid([(0, 6)]), halves).grid().limits(), [(0, 2)])
        thirds = [OpenText(1, [("a", (count // 3, 2))]) for count in range(6)]
        self.assertEqual(CaseTable(Grid([(0, 6)]), thirds).grid().limits(), [(0, 3)])

    def test_thresholds(self):
        texts = [OpenText(1, [("a", (count, 0))]) for count in range(5)] + [OpenText(1, [("a", (5, 1))])]
        self.assertEqual(CaseTable(Grid([(5, 1)]), texts).grid().limits(), [(0, 1)])
        texts[2] = OpenText(1, [("a", (3, 0))])
        self.assertEqual(CaseTable(Grid([(5, 1)]), texts).grid().limits(), [(3, 1)])
        texts = [OpenText(1, []), OpenText(1, [("a", (1, 2))]), OpenText(1, [("a", (2, 2))])]
        self.assertEqual(CaseTable(Grid([(1, 2)]), texts).grid().limits(), [(0, 1)])
        texts = [OpenText(1, []), OpenText(1, [("a", (1, 1))]), OpenText(1, [("b", (2, 1))])]
        self.assertEqual(CaseTable(Grid([(1, 2)]), texts).grid().limits(), [(1, 2)])

    def test_texts_with_the_greatest_measure(self):
        word = "c" * 999 + "d"
        table = CaseTable(Grid([(0, 2)]), [OpenText(1, [(word, (0, 2))]), OpenText(1, [(word, (1, 2))])])
        self.assertEqual((table.grid().limits(), table.texts()), ([(0, 1)], [OpenText(1, [(word, (0, 1))])]))
        table = CaseTable(Grid([(1, 1)]), [OpenText(1, []), OpenText(1, [(word, (1, 1))])])
        self.assertEqual((table.grid().limits(), table.texts()), ([(0, 1)], [OpenText(1, [(word, (0, 1))])]))

    def test_what_moves_over_the_border_of_powers(self):
        text = OpenText(1, [("ab", (0, 1)), ("aba", (0, 1)), ("c", (2, 0)), ("ca", (0, 2))])
        for limits in [[(4, 1)], [(0, 3)], [(3, 2)], [(7, 4)]]:
            grid, led = refined(Grid([(0, 1)]), [text], limits)
            table = CaseTable(grid, led)
            self.assertEqual((table.grid().limits(), table.texts()), ([(0, 1)], [text]))

    def test_an_unknown_in_which_a_class_does_not_go_on_stands_for_0(self):
        table = CaseTable(Grid([(1, 1)]), [OpenText(1, [("a", (1, 7))]), OpenText(1, [("b", (0, 1))])])
        self.assertEqual([text.pieces() for text in table.texts()], [[("a", (1, 0))], [("b", (0, 1))]])
        self.assertEqual(table, CaseTable(Grid([(1, 1)]), [OpenText(1, [("a", (1, 0))]), OpenText(1, [("b", (0, 1))])]))

    def test_great_numbers(self):
        texts = [OpenText(1, [("a", (count, BIG))]) for count in range(4)]
        self.assertEqual(CaseTable(Grid([(0, 4)]), texts).texts(), texts)
        texts = [OpenText(1, []), OpenText(1, [("ab", (0, BIG)), ("ab", (0, 1))])]
        self.assertEqual(CaseTable(Grid([(1, 1)]), texts).texts(), texts)

    def test_no_unknowns(self):
        table = CaseTable(Grid([]), [OpenText(0, [("ab", (3,))])])
        self.assertEqual((table.many(), table.grid(), table.texts()), (0, Grid([]), [OpenText(0, [("ab", (3,))])]))
        self.assertNotEqual(table, CaseTable(Grid([]), [OpenText(0, [("ab", (2,))])]))
        self.assertNotEqual(CaseTable(Grid([]), [OpenText(0, [])]), CaseTable(Grid([(0, 1)]), [OpenText(1, [])]))


class Errors(unittest.TestCase):
    def test_the_first_wrong_argument(self):
        self.assertIs(type(raised(lambda: CaseTable(None, None))), InvalidGrid)
        for texts in [[TEXT], [TEXT] * 3, (TEXT, TEXT), [TEXT, None], [TEXT, OpenText(2, [])], None]:
            error = raised(lambda: CaseTable(Grid([(1, 1)]), texts))
            self.assertIs(type(error), InvalidList)
            self.assertIs(error.value, texts)

    def test_classes_with_the_greatest_threshold(self):
        empty = OpenText(2, [])
        self.assertEqual(CaseTable(Grid([(20, 5), (0, 4)]), [empty] * 100).grid().limits(), [(0, 1), (0, 1)])
        self.assertEqual(len(classes(Grid([(20, 5), (0, 4)]))), 100)
        for limits, wanted in [([(20, 5), (0, 5)], 25 * 25), ([(0, 1), (23, 1)], None), ([(0, 1), (24, 1)], 625), ([(0, 2), (24, 1)], 26 * 25),
                               ([(0, 1), (0, 1), (8, 1)], 729), ([(0, 1), (0, 1), (7, 1)], None), ([(599, 1)], None)]:
            grid = Grid(limits)
            many = grid.many()
            error = raised(lambda: CaseTable(grid, [OpenText(many, [])] * len(classes(grid))))
            self.assertEqual(None if error is None else (type(error), error.value), wanted and (TooMany, wanted))

    def test_a_text_that_is_too_long_when_it_is_led(self):
        grid = Grid([(0, 1), (3, 1)])
        text = OpenText(2, [("c" * 599 + "d", (0, 1, 0)), ("b", (0, 0, 1))])
        # On the grid with both thresholds 3 the class of 3 for n0 has the word three times and once more at each place.
        error = raised(lambda: CaseTable(grid, [text] * 4))
        self.assertEqual((type(error), error.value), (TooLong, 1800 + 600))
        short = OpenText(2, [("c" * 499 + "d", (0, 1, 0))])
        self.assertIsNone(raised(lambda: CaseTable(grid, [short] * 4)))
        error = raised(lambda: CaseTable(grid, [short, short, OpenText(2, [("c" * 500 + "d", (0, 1, 0))]), text]))
        self.assertEqual((type(error), error.value), (TooLong, 2004))
        error = raised(lambda: CaseTable(grid, [OpenText(2, [("ab", (0, BIG, 0))])] * 4))
        self.assertEqual((type(error), error.value), (TooLong, 2 * BIG))


class Objects(unittest.TestCase):
    def test_lists_belong_to_the_caller(self):
        grid, texts = Grid([(0, 2)]), [OpenText(1, [("ab", (0, 1))]), OpenText(1, [("a", (0, 1))])]
        table = CaseTable(grid, texts)
        spoil(texts)
        spoil(table.texts())
        self.assertEqual(table, TABLE)
        self.assertEqual(len(table.texts()), 2)

    def test_at_the_limits(self):
        long = OpenText(1, [("a", (0, 1)), ("b", (0, 1))] * 1000)
        for limits in [[(0, 600)], [(599, 1)], [(300, 300)]]:
            self.assertLess(seconds(lambda: CaseTable(Grid(limits), [long] * 600)), SECONDS)
        text = OpenText(1, [("ab", (0, 1)), ("c", (0, 1)), ("ca", (0, 1))])
        for limits in [[(0, 360)], [(359, 1)], [(180, 180)]]:
            grid, led = refined(Grid([(0, 1)]), [text], limits)
            self.assertLess(seconds(lambda: CaseTable(grid, led)), SECONDS)
            self.assertEqual(CaseTable(grid, led).texts(), [text])
        wide = OpenText(3, [("ab", (0, 1, 0, 1)), ("c", (0, 1, 2, 0))] * 9)
        grid, led = refined(Grid([(0, 1)] * 3), [wide], [(4, 4)] * 3)
        self.assertLess(seconds(lambda: CaseTable(grid, led)), SECONDS)
        self.assertEqual(CaseTable(grid, led).texts(), [wide])


class Plain(unittest.TestCase):
    def test_plain_counting_finds_texts(self):
        self.assertTrue(some_text_writes(["xb", "xaabb", "xaaaabbb"]))
        self.assertFalse(some_text_writes(["", "ab", "aabb", "ababab"]))
        self.assertEqual(plain_value((1, 2), [3]), 7)


if __name__ == "__main__":
    unittest.main()
