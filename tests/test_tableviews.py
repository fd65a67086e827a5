"""Points [32] and [33]: what tables write, tables put together, and what parts two tables."""

import random
import unittest

from helpers import BIG, GREATEST, SECONDS, TABLE, TEXT, by_sum, cube, random_pieces, random_set, raised, same_list_twice, seconds, spoil
from openloops.errors import (InvalidGrid, InvalidList, InvalidNumber, InvalidPoint, InvalidSet, InvalidTable, InvalidText, TooLong,
                              TooMany, Unlike)
from openloops.grids import Grid, class_forms, class_of, classes, place_in_class
from openloops.pointsets import PointSet, all_points, no_points, one_point, points_from, points_leaving
from openloops.tables import CaseTable
from openloops.tableviews import (agreeing_points, chosen, joined_tables, parting_tables, table_at, table_length, table_letter,
                                  table_of, table_written, text_at, texts_on)
from openloops.texts import OpenText, written
from test_tables import ONE, OTHER, plain_word_at, random_cases
from walking import plain_amount, random_amount

EVENS, MORE = table_of(OpenText(1, [("aa", (0, 1))])), table_of(OpenText(1, [("a", (3, 1))]))
SIZES = [0, 9, 4, 2]


def random_table(chance, many, most=2):
    return CaseTable(*random_cases(chance, many, most))


class Views(unittest.TestCase):
    def test_examples(self):
        one, other = CaseTable(*ONE), CaseTable(*OTHER)
        self.assertEqual([table_written(one, [2, 1]), table_written(other, [0, 0])], ["cacabbcacadca", "caca"])

    def test_what_is_written_at_points(self):
        chance = random.Random(32)
        for turn in range(100):
            many = turn % 4
            grid, texts = random_cases(chance, many)
            table = CaseTable(grid, texts)
            for point in cube(many, SIZES[many]):
                word = plain_word_at(grid, texts, point)
                self.assertEqual([table_written(table, point), table_length(table, point)], [word, len(word)])
                self.assertEqual("".join(table_letter(table, point, at) for at in range(len(word))), word)
                text = text_at(table, point)
                self.assertEqual(written(text, place_in_class(table.grid(), point)), word)
                self.assertIn(text, table.texts())
                for at in [len(word), -1, True, None, BIG]:
                    self.assertIs(type(raised(lambda: table_letter(table, point, at))), InvalidNumber)

    def test_long_words(self):
        table = CaseTable(Grid([(1, 2)]), [OpenText(1, []), OpenText(1, [("ab", (0, 1))]), OpenText(1, [("c", (1, BIG))])])
        self.assertEqual(len(table_written(table, [20001])), 20000)
        for point, wanted in [([20003], 20002), ([4], BIG + 1), ([2 * BIG], 1 + BIG * (BIG - 1))]:
            error = raised(lambda: table_written(table, point))
            self.assertEqual((type(error), error.value), (TooLong, wanted))
            self.assertEqual(table_length(table, point), wanted)
        self.assertEqual([table_letter(table, [2 * GREATEST + 1], 2 * GREATEST - at) for at in [1, 2]], ["b", "a"])
        self.assertIs(type(raised(lambda: table_letter(table, [2 * GREATEST + 1], 2 * GREATEST))), InvalidNumber)

    def test_texts_on_finer_grids(self):
        chance = random.Random(320)
        for turn in range(100):
            many = turn % 4
            table = random_table(chance, many)
            finer = Grid([(low + chance.randint(0, 1), period * chance.randint(1, 2)) for low, period in table.grid().limits()])
            texts = texts_on(table, finer)
            self.assertEqual([text.many() for text in texts], [many] * len(classes(finer)))
            for point in cube(many, SIZES[many]):
                text = texts[classes(finer).index(class_of(finer, point))]
                self.assertEqual(written(text, place_in_class(finer, point)), table_written(table, point))
            for least, text in zip(classes(finer), texts):
                for at, (count, limit) in enumerate(zip(least, finer.limits())):
                    self.assertTrue(count >= limit[0] or not any(form[at + 1] for _, form in text.pieces()))
            self.assertEqual(texts_on(table, table.grid()), table.texts())

    def test_texts_on_wrong_grids(self):
        for grid in [Grid([(0, 3)]), Grid([]), Grid([(0, 2), (0, 2)]), Grid([(5, 1)])]:
            error = raised(lambda: texts_on(TABLE, grid))
            self.assertIs(type(error), Unlike)
            self.assertIs(error.value, grid)
        self.assertIs(type(raised(lambda: texts_on(TABLE, None))), InvalidGrid)
        self.assertIs(type(raised(lambda: texts_on(None, None))), InvalidTable)
        table = table_of(OpenText(1, [("c" * 500 + "d", (0, 1))]))
        # In a class that goes on the word is taken as often as its count says, and measured once more.
        for limit, wanted in [((2, 1), None), ((3, 1), 2004), ((4, 1), 2505), ((2, 4), 2004), ((0, 3), None), ((0, 5), 2004)]:
            error = raised(lambda: texts_on(table, Grid([limit])))
            self.assertEqual(None if error is None else (type(error), error.value), wanted and (TooLong, wanted))

    def test_no_list_twice(self):
        texts = texts_on(TABLE, Grid([(0, 4)]))
        self.assertFalse(same_list_twice(texts))
        spoil(texts)
        self.assertEqual(len(texts_on(TABLE, Grid([(0, 4)]))), 4)


class Together(unittest.TestCase):
    def test_examples(self):
        halves = table_at(EVENS, 1, [((0, 1), 0, 2)])
        self.assertEqual([halves.grid().limits(), [text.pieces() for text in halves.texts()], table_written(halves, [7])],
                         [[(0, 2)], [[("a", (0, 2))], [("a", (0, 2))]], "aaaaaa"])
        self.assertEqual(chosen(one_point([3]), MORE, EVENS), EVENS)

    def test_table_of(self):
        for many in range(4):
            text = OpenText(many, [("ab", (1,) * (many + 1))])
            self.assertEqual(table_of(text), CaseTable(Grid([(0, 1)] * many), [text]))
        self.assertIs(type(raised(lambda: table_of(EVENS))), InvalidText)

    def test_joined_tables(self):
        chance = random.Random(321)
        for turn in range(100):
            many = turn % 4
            one, other = random_table(chance, many), random_table(chance, many)
            joined = joined_tables(one, other)
            for point in cube(many, SIZES[many]):
                self.assertEqual(table_written(joined, point), table_written(one, point) + table_written(other, point))
        self.assertEqual(joined_tables(EVENS, EVENS), table_of(OpenText(1, [("a", (0, 4))])))

    def test_table_at(self):
        chance, turns = random.Random(322), 0
        while turns < 150:
            many = chance.randint(0, 3)
            table, wanted = random_table(chance, turns % 4), turns % 3
            amounts = [random_amount(chance, wanted, 1) for _ in range(table.many())]
            if isinstance(raised(lambda: table_at(table, wanted, amounts)), TooMany):
                turns += many == 0
                continue
            turns += 1
            led = table_at(table, wanted, amounts)
            self.assertEqual(led.many(), wanted)
            for point in cube(wanted, SIZES[wanted] + 2):
                values = [plain_amount(amount, point) for amount in amounts]
                self.assertEqual(table_written(led, point), table_written(table, values))

    def test_chosen(self):
        chance, turns = random.Random(323), 0
        while turns < 100:
            many = turns % 4
            points, one, other = random_set(chance, many), random_table(chance, many), random_table(chance, many)
            if isinstance(raised(lambda: chosen(points, one, other)), TooMany):
                continue
            turns += 1
            table = chosen(points, one, other)
            for point in cube(many, SIZES[many]):
                self.assertEqual(table_written(table, point), table_written(one if point in points else other, point))
        self.assertEqual(chosen(all_points(1), EVENS, MORE), EVENS)
        self.assertEqual(chosen(no_points(1), EVENS, MORE), MORE)

    def test_great_numbers(self):
        table = table_at(EVENS, 1, [((0, BIG), 0, BIG)])
        self.assertEqual(table, EVENS)
        self.assertEqual(table_at(EVENS, 2, [((5, 0, 0), 0, 1)]), table_of(OpenText(2, [("a", (10, 0, 0))])))
        self.assertEqual(table_at(table_of(OpenText(0, [("ab", (2,))])), 3, []), table_of(OpenText(3, [("ab", (2, 0, 0, 0))])))
        error = raised(lambda: table_at(EVENS, 1, [((0, 1), BIG, 1)]))
        self.assertEqual((type(error), error.value), (TooMany, BIG + 1))
        error = raised(lambda: table_at(EVENS, 1, [((0, 1), 2, BIG)]))
        self.assertEqual((type(error), error.value), (TooMany, BIG + 2))

    def test_too_many_classes(self):
        def needs(threshold, period):
            texts = [OpenText(1, [])] * (threshold + period - 1) + [OpenText(1, [("a", (0, 1)), ("b", (1, 0))])]
            return CaseTable(Grid([(threshold, period)]), texts)

        self.assertEqual(needs(1, 7).grid().limits(), [(1, 7)])
        # The meeting has the period 11 * 13 * 4 = 572 and so just 601 classes with the threshold 29.
        one, other = needs(1, 44), needs(29, 13)
        for call in [lambda: joined_tables(one, other), lambda: parting_tables(one, other), lambda: agreeing_points(one, other),
                     lambda: chosen(one_point([3]), one, other), lambda: chosen(all_points(1), one, other)]:
            error = raised(call)
            self.assertEqual((type(error), error.value), (TooMany, 601))
        self.assertIsNone(raised(lambda: joined_tables(one, needs(28, 13))))
        self.assertIsNone(raised(lambda: parting_tables(one, needs(28, 13))))
        pair = table_at(needs(1, 20), 2, [((0, 1, 0), 0, 1)])
        other = table_at(needs(3, 2), 2, [((0, 0, 1), 0, 1)])
        self.assertEqual([pair.grid().limits(), other.grid().limits()], [[(1, 20), (0, 1)], [(0, 1), (3, 2)]])
        self.assertIsNone(raised(lambda: joined_tables(pair, other)))
        # The meeting has 21 * 24 classes, but 42 * 24 with the threshold 22 for both.
        other = table_at(needs(22, 2), 2, [((0, 0, 1), 0, 1)])
        self.assertEqual(len(classes(Grid([(1, 20), (22, 2)]))), 504)
        for call in [lambda: joined_tables(pair, other), lambda: chosen(all_points(2), pair, other)]:
            error = raised(call)
            self.assertEqual((type(error), error.value), (TooMany, 42 * 24))
        self.assertEqual(parting_tables(pair, other), [20, 0])
        error = raised(lambda: table_at(EVENS, 2, [((0, 1, 1), 0, 25)]))
        self.assertEqual((type(error), error.value), (TooMany, 625))
        self.assertIsNone(raised(lambda: table_at(EVENS, 2, [((0, 1, 1), 0, 24)])))
        # However many classes the meeting itself has: 31 * 31 here, and those of the even grid are told.
        one = table_at(needs(1, 30), 2, [((0, 1, 0), 0, 1)])
        other = table_at(needs(2, 22), 2, [((0, 0, 1), 0, 1)])
        self.assertEqual([one.grid().limits(), other.grid().limits()], [[(1, 30), (0, 1)], [(0, 1), (2, 22)]])
        error = raised(lambda: joined_tables(one, other))
        self.assertEqual((type(error), error.value), (TooMany, 32 * 24))
        error = raised(lambda: parting_tables(one, other))
        self.assertEqual((type(error), error.value), (TooMany, 31 * 24))

    def test_too_long(self):
        long = table_of(OpenText(1, [("c" * 999 + "d", (0, 1))]))
        step = chosen(points_from(1, 0, 1), table_of(OpenText(1, [("e", (1, 0))])), table_of(OpenText(1, [])))
        twostep = chosen(points_from(1, 0, 2), table_of(OpenText(1, [("e", (1, 0))])), table_of(OpenText(1, [])))
        self.assertEqual([step.grid().limits(), twostep.grid().limits()], [[(1, 1)], [(2, 1)]])
        for one, other, wanted in [(long, step, 2001), (step, long, 2001), (long, twostep, 3000), (twostep, long, 3000),
                                   (long, long, None), (long, joined_tables(long, table_of(OpenText(1, [("f", (1, 0))]))), 2001)]:
            error = raised(lambda: joined_tables(one, other))
            self.assertEqual(None if error is None else (type(error), error.value), wanted and (TooLong, wanted))
        # What is chosen is led alone.
        self.assertEqual(table_written(chosen(one_point([0]), long, step), [4]), "e")
        error = raised(lambda: chosen(points_from(1, 0, 2), long, step))
        self.assertEqual((type(error), error.value), (TooLong, 3000))
        error = raised(lambda: table_at(long, 1, [((0, 1), 3, 2)]))
        self.assertIsNone(error)
        error = raised(lambda: table_at(long, 1, [((2, 1), 0, 1)]))
        self.assertEqual((type(error), error.value), (TooLong, 3000))

    def test_wrong_arguments(self):
        none, two = table_of(OpenText(0, [])), table_of(OpenText(2, []))
        for call, kind, thing in [
                (lambda: joined_tables(EVENS, two), Unlike, two), (lambda: parting_tables(two, EVENS), Unlike, EVENS),
                (lambda: chosen(all_points(1), two, EVENS), Unlike, two), (lambda: chosen(all_points(1), EVENS, two), Unlike, two),
                (lambda: chosen(all_points(2), EVENS, two), Unlike, EVENS), (lambda: chosen(None, None, None), InvalidSet, None),
                (lambda: chosen(all_points(1), TEXT, two), InvalidTable, TEXT), (lambda: chosen(all_points(2), EVENS, None), InvalidTable, None),
                (lambda: table_at(EVENS, True, None), InvalidNumber, True), (lambda: table_at(EVENS, 1, []), InvalidList, []),
                (lambda: table_at(EVENS, 1, [((0, 1, 1), 0, 1)]), InvalidList, [((0, 1, 1), 0, 1)]),
                (lambda: table_at(EVENS, 1, (((0, 1), 0, 1),)), InvalidList, (((0, 1), 0, 1),)),
                (lambda: agreeing_points(EVENS, none), Unlike, none), (lambda: agreeing_points(none, EVENS), Unlike, EVENS),
                (lambda: agreeing_points(two, None), InvalidTable, two), (lambda: agreeing_points(EVENS, two), InvalidTable, two),
                (lambda: text_at(EVENS, (1,)), InvalidPoint, (1,)), (lambda: table_letter(EVENS, [True], None), InvalidPoint, [True])]:
            error = raised(call)
            self.assertIs(type(error), kind)
            self.assertEqual(error.value, thing)


class Parting(unittest.TestCase):
    def test_examples(self):
        self.assertEqual(parting_tables(EVENS, MORE), [0])

    def test_the_least_point(self):
        chance, found = random.Random(33), []
        for turn in range(300):
            many = turn % 4
            one = random_table(chance, many)
            other = random_table(chance, many) if chance.random() < 0.3 else changed_table(chance, one)
            points = by_sum(many, [0, 20, 12, 11][many])
            wanted = next((point for point in points if table_written(one, point) != table_written(other, point)), None)
            self.assertEqual(parting_tables(one, other), wanted)
            self.assertIs(one == other, wanted is None)
            found.append(sum(wanted) if wanted is not None else -1)
        self.assertGreater(len(set(found)), 4)

    def test_unlike_thresholds_and_periods(self):
        one = CaseTable(Grid([(0, 3)]), [OpenText(1, [("a", (0, 1))])] * 2 + [OpenText(1, [("a", (0, 1)), ("b", (0, 1))])])
        other = CaseTable(Grid([(4, 3)]), [OpenText(1, []), OpenText(1, []), OpenText(1, []), OpenText(1, [("a", (1, 0))])]
                          + [OpenText(1, [("a", (1, 1))]), OpenText(1, [("a", (1, 1)), ("b", (1, 1))]), OpenText(1, [("a", (2, 1))])])
        self.assertEqual(parting_tables(one, other), None if one == other else
                         next([at] for at in range(20) if table_written(one, [at]) != table_written(other, [at])))
        # The least place in the class is not the least point: (0, 3) has the least sum here.
        one = CaseTable(Grid([(0, 5), (0, 1)]), [OpenText(2, [("a", (0, 1, 0)), ("b", (0, 0, 1))])] * 5)
        other = CaseTable(Grid([(0, 5), (0, 1)]), [OpenText(2, [("b", (0, 0, 1)), ("a", (0, 1, 0))])] * 5)
        self.assertEqual(parting_tables(one, other), [5, 1])
        one = CaseTable(Grid([(0, 5), (0, 1)]), [OpenText(2, [("a", (0, 1, 0)), ("b", (0, 1, 3))])] * 5)
        other = CaseTable(Grid([(0, 5), (0, 1)]), [OpenText(2, [("a", (0, 2, 3)), ("b", (0, 0, 0))])] * 5)
        self.assertEqual(parting_tables(one, other), [0, 1])
        one, other = (CaseTable(Grid([(0, 5), (0, 1)]), [OpenText(2, pieces)] * 5) for pieces in
                      [[("a", (0, 1, 0)), ("c", (1, 0, 0)), ("a", (0, 0, 1))], [("a", (0, 0, 1)), ("c", (1, 0, 0)), ("a", (0, 1, 0))]])
        self.assertEqual(parting_tables(one, other), [0, 1])
        one = CaseTable(Grid([(0, 1), (0, 5)]), [OpenText(2, [("a", (0, 1, 0)), ("a", (0, 0, 1))])] * 5)
        other = CaseTable(Grid([(0, 1), (0, 5)]), [OpenText(2, [("a", (0, 1, 0)), ("b", (0, 0, 1))])] * 5)
        self.assertEqual(parting_tables(one, other), [0, 5])

    def test_texts_of_any_measure(self):
        one = table_of(OpenText(1, [("ab", (0, BIG)), ("c", (0, 1))]))
        other = chosen(points_from(1, 0, 300), table_of(OpenText(1, [])), table_of(OpenText(1, [])))
        self.assertEqual(parting_tables(one, other), [1])
        steps = CaseTable(Grid([(300, 1)]), [OpenText(1, [("x", (1, 0))])] * 300 + [OpenText(1, [("a", (0, 1))])])
        self.assertEqual(parting_tables(one, steps), [0])
        wave = CaseTable(Grid([(0, 2)]), [OpenText(1, [("ab", (0, 2 * BIG)), ("c", (0, 2))]),
                                          OpenText(1, [("ba", (0, 2 * BIG)), ("c", (0, 2))])])
        self.assertEqual(parting_tables(one, wave), [1])
        self.assertEqual(parting_tables(table_of(OpenText(2, [("ab", (0, BIG, 0)), ("c", (0, 0, 1))])),
                                        table_of(OpenText(2, [("ab", (0, BIG, 0)), ("d", (0, 0, 1))]))), [0, 1])
        self.assertLess(seconds(lambda: parting_tables(one, steps)), SECONDS)

    def test_at_the_limits(self):
        pieces = [("ab", (0, 1, 0)), ("c", (0, 0, 1))] * 14
        one = CaseTable(Grid([(10, 10), (10, 10)]), [OpenText(2, pieces + [("x", (1 if at == 399 else 2, 1, 1))]) for at in range(400)])
        other = CaseTable(Grid([(10, 10), (10, 10)]), [OpenText(2, pieces + [("x", (2, 1, 1))])] * 400)
        self.assertEqual(parting_tables(one, other), [19, 19])
        self.assertLess(seconds(lambda: parting_tables(one, other)), SECONDS)
        self.assertLess(seconds(lambda: parting_tables(one, one)), SECONDS)
        finer = CaseTable(Grid([(0, 600)]), [OpenText(1, [("ab", (1, 1)), ("c", (at, 2))]) for at in range(600)])
        whole = table_of(OpenText(1, [("ab", (0, 1)), ("c", (0, 1))]))
        self.assertEqual(parting_tables(finer, whole), [0])
        self.assertLess(seconds(lambda: parting_tables(whole, finer)), SECONDS)


def changed_table(chance, table):
    """Return a table that writes something else in one class, or a bit more."""
    texts = table.texts()
    place = chance.randrange(len(texts))
    texts[place] = OpenText(table.many(), texts[place].pieces() + random_pieces(chance, table.many(), 1, longest=1, most=1))
    return CaseTable(table.grid(), texts)


class Agreeing(unittest.TestCase):
    def test_examples(self):
        halves = table_at(EVENS, 1, [((0, 1), 0, 2)])
        self.assertEqual(agreeing_points(EVENS, MORE), one_point([3]))
        self.assertEqual(agreeing_points(halves, table_of(OpenText(1, [("a", (0, 1))]))), points_leaving(1, 0, 0, 2))

    def test_just_the_points_at_which_both_write_the_same(self):
        chance, kinds = random.Random(330), []
        for turn in range(300):
            many = 1 if turn % 10 else 0
            one = random_table(chance, many)
            other = random_table(chance, many) if chance.random() < 0.5 else changed_table(chance, one)
            points = agreeing_points(one, other)
            for point in cube(many, 25):
                self.assertIs(point in points, table_written(one, point) == table_written(other, point))
            kinds.append((points.empty, points.finite))
        self.assertGreater(len(set(kinds)), 2)

    def test_points_far_on(self):
        one = table_of(OpenText(1, [("a", (30, 1)), ("b", (1, 0))]))
        other = table_of(OpenText(1, [("a", (0, 2)), ("b", (1, 0))]))
        self.assertEqual(agreeing_points(one, other), one_point([30]))
        two = table_of(OpenText(2, []))
        self.assertIs(type(raised(lambda: agreeing_points(two, two))), InvalidTable)
        self.assertEqual(agreeing_points(table_of(OpenText(0, [])), table_of(OpenText(0, []))), all_points(0))
        self.assertEqual(agreeing_points(table_of(OpenText(0, [])), table_of(OpenText(0, [("a", (1,))]))), no_points(0))

    def test_too_long_and_too_many(self):
        long = table_of(OpenText(1, [("c" * 999 + "d", (0, 1))]))
        step = chosen(points_from(1, 0, 2), EVENS, table_of(OpenText(1, [])))
        for one, other in [(long, step), (step, long)]:
            error = raised(lambda: agreeing_points(one, other))
            self.assertEqual((type(error), error.value), (TooLong, 3000))
        # Both write a thing alike at the place 25 of the class of 7 modulo 23, the point 582, and 583 + 23 are more than 600.
        left, right = [OpenText(1, [("a", (25, 1))])] * 23, [OpenText(1, [("a", (0, 1))])] * 23
        right[7], left[22] = OpenText(1, [("a", (0, 2))]), OpenText(1, [("b", (1, 1))])
        one, other = CaseTable(Grid([(0, 23)]), left), CaseTable(Grid([(0, 23)]), right)
        error = raised(lambda: agreeing_points(one, other))
        self.assertEqual((type(error), error.value), (TooMany, 583 + 23))
        left[7] = OpenText(1, [("a", (24, 1))])
        one = CaseTable(Grid([(0, 23)]), left)
        self.assertEqual(agreeing_points(one, other), one_point([7 + 24 * 23]))

    def test_at_the_limits(self):
        left = [OpenText(1, [("ab", (0, 1)), ("c", (0, 1)), ("d", (at % 20, 0))]) for at in range(300)]
        right = [OpenText(1, [("ab", (0, 1)), ("c", (0, 1)), ("e", (at % 19, 0))]) for at in range(300)]
        one, other = CaseTable(Grid([(0, 300)]), left), CaseTable(Grid([(0, 300)]), right)
        self.assertLess(seconds(lambda: agreeing_points(one, other)), SECONDS)
        self.assertEqual(agreeing_points(one, other), PointSet(Grid([(0, 300)]), [[0]]))
        self.assertEqual(agreeing_points(one, one), all_points(1))

    def test_class_forms_lead_to_points(self):
        self.assertEqual(class_forms(Grid([(0, 23)]), [7]), [(7, 23)])


if __name__ == "__main__":
    unittest.main()
