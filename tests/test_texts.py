"""Points [9] to [12]: open texts."""

import random
import unittest

from helpers import (BIG, GREATEST, NO_TEXT, SECONDS, cube, no_forms, no_point, plain_value, plain_word, raised,
                     random_form, random_pieces, seconds)
from openloops.errors import InvalidList, InvalidNumber, InvalidPiece, InvalidPoint, TooLong, Unlike
from openloops.pieces import normal
from openloops.texts import (OpenText, joined, length, letters, repeated, replaced, size, spread, text_letter, unknowns,
                             written)

TEXT = OpenText(2, [("ab", (1, 1, 0)), ("b", (0, 0, 3))])
EXAMPLE = [('ab', (0, 1, 0)), ('a', (1, 0, 0)), ('b', (0, 0, 3)), ('b', (1, 0, 0))]


def random_text(chance, many, how_many=4):
    return OpenText(many, random_pieces(chance, many, chance.randint(0, how_many)))


class Texts(unittest.TestCase):
    def test_examples(self):
        self.assertEqual([TEXT.pieces(), written(TEXT, [2, 1]), length(TEXT), letters(TEXT, "b"), size(TEXT), spread(TEXT)],
                         [EXAMPLE, 'abababbbb', (2, 2, 3), (1, 1, 3), 5, 4])
        self.assertEqual([OpenText(1, [("a", (1, 0)), ("ba", (0, 1))]) == OpenText(1, [("ab", (0, 1)), ("a", (1, 0))]),
                          text_letter(TEXT, [10 ** 20, 0], 2 * 10 ** 20 + 1)], [True, 'b'])
        self.assertEqual(replaced(TEXT, 1, [(1, 2), (0, 0)]).pieces(), [('ab', (0, 2)), ('abab', (1, 0))])
        self.assertEqual([joined(TEXT, TEXT) == repeated(TEXT, 2), repeated(TEXT, 0).pieces()], [True, []])

    def test_errors_are_those_of_normal(self):
        for many, pieces, kind, thing in [(True, [], InvalidNumber, True), (1, [("a", (1, 0)), None], InvalidPiece, None),
                                          (0, [("a", (2001,))], TooLong, 2001)]:
            error = raised(lambda: OpenText(many, pieces))
            self.assertEqual((type(error), error.value), (kind, thing))

    def test_many_and_pieces(self):
        chance = random.Random(9)
        for turn in range(100):
            many = turn % 4
            pieces = random_pieces(chance, many, 4)
            text = OpenText(many, pieces)
            self.assertEqual((text.many(), text.pieces()), (many, normal(many, pieces)))

    def test_what_was_handed_in_or_returned_may_be_changed(self):
        pieces = [("ab", (1, 1, 0)), ("b", (0, 0, 3))]
        text = OpenText(2, pieces)
        pieces.append(("c", (1, 0, 0)))
        text.pieces().clear()
        self.assertEqual(text.pieces(), EXAMPLE)

    def test_equal_just_if_the_same_is_written(self):
        chance = random.Random(99)
        equal = 0
        for turn in range(1500):
            many = turn % 4
            one, other = [random_pieces(chance, many, 2, longest=2, most=1) for _ in range(2)]
            same = all(plain_word(one, point) == plain_word(other, point) for point in cube(many, 4))
            self.assertIs(OpenText(many, one) == OpenText(many, other), same, (one, other))
            self.assertIs(OpenText(many, one) != OpenText(many, other), not same)
            equal += same
        self.assertGreater(equal, 100)

    def test_equal_only_with_as_many_unknowns(self):
        self.assertFalse(OpenText(1, []) == OpenText(2, []))
        self.assertFalse(OpenText(0, [("a", (1,))]) == OpenText(1, [("a", (1, 0))]))

    def test_size_spread_and_unknowns(self):
        for many, pieces, wanted in [
                (0, [], (0, 1, [])), (3, [], (0, 1, [])), (0, [("abc", (4,))], (12, 1, [])),
                (1, [("abab", (1, 3))], (6, 7, [0])), (2, [("ab", (7, 0, BIG))], (16, BIG + 1, [1])),
                (3, [("a", (0, 2, 0, 0)), ("b", (9, 0, 0, 5))], (11, 6, [0, 2])), (3, [("a", (0, 1, 2, 3))], (1, 4, [0, 1, 2]))]:
            text = OpenText(many, pieces)
            self.assertEqual((size(text), spread(text), unknowns(text)), wanted)


class Written(unittest.TestCase):
    def test_written_and_its_letters(self):
        chance = random.Random(10)
        for turn in range(200):
            many = turn % 4
            pieces = random_pieces(chance, many, 4)
            text = OpenText(many, pieces)
            for point in cube(many, 2):
                word = plain_word(pieces, point)
                self.assertEqual(written(text, point), word)
                self.assertEqual("".join(text_letter(text, point, at) for at in range(len(word))), word)
                for at in [len(word), len(word) + 1, -1, BIG]:
                    self.assertIs(type(raised(lambda: text_letter(text, point, at))), InvalidNumber)

    def test_as_many_letters_as_allowed(self):
        text = OpenText(1, [("ab", (1, 2))])
        self.assertEqual(written(text, [4999]), "ab" * 9999)
        for pieces, point, wanted in [([("a", (0, 1))], [20001], 20001), ([("ab", (0, 1)), ("c", (1, 0))], [10000], 20001),
                                      ([("ab", (0, BIG))], [GREATEST], 2 * BIG * GREATEST)]:
            error = raised(lambda: written(OpenText(1, pieces), point))
            self.assertEqual((type(error), error.value), (TooLong, wanted))
        self.assertEqual(len(written(OpenText(1, [("a", (0, 1))]), [20000])), 20000)

    def test_letters_of_long_words(self):
        text = OpenText(2, [("ab", (0, BIG, 0)), ("cde", (0, 0, BIG))])
        point = [GREATEST, GREATEST]
        ahead = 2 * BIG * GREATEST
        self.assertEqual([text_letter(text, point, at) for at in [0, 1, ahead - 1, ahead, ahead + 1]], list("abbcd"))
        last = ahead + 3 * BIG * GREATEST - 1
        self.assertEqual(text_letter(text, point, last), "e")
        self.assertEqual(raised(lambda: text_letter(text, point, last + 1)).value, last + 1)

    def test_a_text_without_letters(self):
        self.assertEqual(written(OpenText(0, []), []), "")
        self.assertIs(type(raised(lambda: text_letter(OpenText(0, []), [], 0))), InvalidNumber)

    def test_points_for_each_number_of_unknowns(self):
        for many in range(1, 4):
            text = OpenText(many, [])
            for bad in no_point(many):
                for call in [lambda: written(text, bad), lambda: text_letter(text, bad, None)]:
                    error = raised(call)
                    self.assertIs(type(error), InvalidPoint)
                    self.assertIs(error.value, bad)

    def test_length_and_letters_count_what_is_written(self):
        chance = random.Random(11)
        for turn in range(200):
            many = turn % 4
            text = random_text(chance, many)
            for point in cube(many, 2):
                word = written(text, point)
                self.assertEqual(plain_value(length(text), point), len(word))
                for letter in "abz":
                    self.assertEqual(plain_value(letters(text, letter), point), word.count(letter))
        self.assertEqual([length(OpenText(3, [])), letters(OpenText(0, []), "z")], [(0, 0, 0, 0), (0,)])


class Together(unittest.TestCase):
    def test_joined_and_repeated(self):
        chance = random.Random(12)
        for turn in range(200):
            many = turn % 4
            one, other, times = random_text(chance, many), random_text(chance, many), chance.randint(0, 3)
            for point in cube(many, 2):
                self.assertEqual(written(joined(one, other), point), written(one, point) + written(other, point))
                self.assertEqual(written(repeated(one, times), point), written(one, point) * times)

    def test_unlike(self):
        other = OpenText(2, [("a", (2000, 0, 0))])
        error = raised(lambda: joined(OpenText(1, [("a", (2000, 0))]), other))
        self.assertIs(type(error), Unlike)
        self.assertIs(error.value, other)

    def test_the_measure_of_what_is_joined(self):
        half, rest = OpenText(1, [("a", (999, 0)), ("b", (0, 1))]), OpenText(1, [("c", (999, 0)), ("d", (0, 1))])
        self.assertEqual(size(joined(half, rest)), 2000)
        # The measure is that of the normal pieces as they stand, though together they would have less.
        full = OpenText(1, [("b", (0, 1)), ("a", (1999, 0))])
        for one, other, wanted in [(half, OpenText(1, [("d", (0, 1)), ("c", (1000, 0))]), 2001),
                                   (full, OpenText(1, [("a", (0, 5))]), 2001), (full, full, 4000)]:
            error = raised(lambda: joined(one, other))
            self.assertEqual((type(error), error.value), (TooLong, wanted))
        power = OpenText(1, [("a", (0, 1))])
        self.assertEqual(joined(power, power).pieces(), [("a", (0, 2))])

    def test_the_measure_of_what_is_repeated(self):
        text = OpenText(1, [("a", (0, 1)), ("b", (1, 0))])
        self.assertEqual(size(repeated(text, 1000)), 2000)
        for times in [1001, BIG, GREATEST]:
            error = raised(lambda: repeated(text, times))
            self.assertEqual((type(error), error.value), (TooLong, 2 * times))
        self.assertEqual(repeated(OpenText(3, []), GREATEST), OpenText(3, []))
        # Each time counts, though powers side by side would be one.
        self.assertEqual(raised(lambda: repeated(OpenText(1, [("a", (0, 1))]), 2001)).value, 2001)
        self.assertEqual(repeated(OpenText(1, [("a", (0, 1))]), 2000).pieces(), [("a", (0, 2000))])

    def test_replaced_writes_what_stands_at_the_values(self):
        chance = random.Random(120)
        for turn in range(300):
            unknown, many = turn % 4, (turn // 4) % 4
            text = random_text(chance, unknown, 3)
            forms = [random_form(chance, many) for _ in range(unknown)]
            led = replaced(text, many, forms)
            self.assertEqual(led.many(), many)
            for point in cube(many, 2):
                values = [plain_value(form, point) for form in forms]
                self.assertEqual(written(led, point), written(text, values))

    def test_the_measure_of_what_is_replaced(self):
        text = OpenText(1, [("ab", (0, 2)), ("c", (1, 0))])
        self.assertEqual(replaced(text, 0, [(499,)]).pieces(), [("ab" * 998 + "c", (1,))])
        for many, forms, wanted in [(0, [(500,)], 2001), (1, [(499, 1)], 1999), (1, [(500, BIG)], 2003),
                                    (2, [(BIG, 0, 1)], 4 * BIG + 3), (0, [(BIG,)], 4 * BIG + 1)]:
            error = raised(lambda: replaced(text, many, forms))
            if wanted > 2000:
                self.assertEqual((type(error), error.value), (TooLong, wanted))
            else:
                self.assertIsNone(error)

    def test_forms_for_each_number_of_unknowns(self):
        for unknown in range(1, 4):
            for many in range(1, 4):
                for bad in no_forms(many, unknown):
                    error = raised(lambda: replaced(OpenText(unknown, []), many, bad))
                    self.assertIs(type(error), InvalidList)
                    self.assertIs(error.value, bad)
        self.assertEqual(replaced(OpenText(0, [("a", (1,))]), 3, []), OpenText(3, [("a", (1, 0, 0, 0))]))

    def test_errors_in_order(self):
        for bad in NO_TEXT:
            self.assertIs(raised(lambda: joined(bad, None)).value, bad)
            self.assertIs(raised(lambda: joined(OpenText(1, []), bad)).value, bad)

    def test_at_the_limits(self):
        text = OpenText(3, [("a", (0, GREATEST, 1, 1)), ("b", (0, 1, GREATEST, 1))] * 1000)
        for call in [lambda: written(OpenText(1, [("a", (0, 1)), ("b", (0, 1))] * 1000), [10]),
                     lambda: text_letter(text, [GREATEST] * 3, GREATEST ** 2 * 1000), lambda: length(text),
                     lambda: letters(text, "b"), lambda: replaced(text, 3, [(0, GREATEST, 1, 1)] * 3),
                     lambda: repeated(OpenText(3, [("a", (0, 1, 1, 1))]), 2000), lambda: joined(text, OpenText(3, [])),
                     lambda: text == OpenText(3, text.pieces())]:
            self.assertLess(seconds(call), SECONDS)


if __name__ == "__main__":
    unittest.main()
