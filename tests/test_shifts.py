"""Point [15]: later and earlier."""

import itertools
import random
import unittest

from helpers import BIG, GREATEST, SECONDS, cube, raised, random_pieces, seconds
from openloops.errors import InvalidNumber, TooLong
from openloops.shifts import earlier, later, thinned
from openloops.texts import OpenText, size, written


def moved_point(point, at, number):
    return point[:at] + [number] + point[at + 1:]


def random_text(chance, many, how_many=3):
    return OpenText(many, random_pieces(chance, many, chance.randint(0, how_many)))


def small_texts(many):
    """Yield open texts of at most three short pieces."""
    forms = [form for form in itertools.product(range(2), repeat=many + 1) if any(form)]
    pieces = [(word, form) for word in ["a", "b", "ab", "ba", "aab"] for form in forms]
    for how_many in range(4):
        for chosen in itertools.product(pieces, repeat=how_many):
            yield OpenText(many, list(chosen))


class Later(unittest.TestCase):
    def test_examples(self):
        text = OpenText(1, [("ab", (0, 1)), ("b", (0, 1))])
        self.assertEqual([later(text, 0, 1).pieces(), earlier(later(text, 0, 1), 0) == text, earlier(text, 0)],
                         [[('ab', (0, 1)), ('a', (1, 0)), ('b', (0, 1)), ('bb', (1, 0))], True, None])
        self.assertEqual([thinned(OpenText(1, [("ab", (0, 6))]), 0, 3).pieces(), thinned(text, 0, 2)],
                         [[('ab', (0, 2))], None])
        text = OpenText(2, [("ab", (2, 2, 1)), ("c", (1, 0, 1))])
        self.assertEqual([earlier(text, 0).pieces(), earlier(text, 1).pieces(), earlier(earlier(text, 0), 0)],
                         [[('ab', (0, 2, 1)), ('c', (0, 0, 1)), ('c', (1, 0, 0))],
                          [('ab', (0, 2, 1)), ('ab', (1, 0, 0)), ('c', (0, 0, 1))], None])

    def test_later_writes_what_stands_there(self):
        chance = random.Random(15)
        for turn in range(300):
            many = 1 + turn % 3
            text, at, by = random_text(chance, many), chance.randrange(many), chance.randint(0, 3)
            moved = later(text, at, by)
            for point in cube(many, 2):
                self.assertEqual(written(moved, point), written(text, moved_point(point, at, point[at] + by)))

    def test_later_by_nothing_and_step_by_step(self):
        chance = random.Random(150)
        for turn in range(100):
            many = 1 + turn % 3
            text, at = random_text(chance, many), chance.randrange(many)
            self.assertEqual(later(text, at, 0), text)
            self.assertEqual(later(later(text, at, 2), at, 1), later(text, at, 3))

    def test_later_that_is_too_long(self):
        text = OpenText(2, [("ab", (1, 3, 1)), ("c", (0, 0, 1))])
        self.assertEqual(size(later(text, 0, 332)), 2 * 3 * 332 + 5)
        for at, by, wanted in [(0, 333, 2003), (0, BIG, 6 * BIG + 5), (1, BIG, 3 * BIG + 5)]:
            error = raised(lambda: later(text, at, by))
            self.assertEqual((type(error), error.value), (TooLong, wanted))
        self.assertEqual(later(OpenText(2, [("a", (5, 0, 1))]), 0, BIG), OpenText(2, [("a", (5, 0, 1))]))

    def test_no_unknowns(self):
        for function, rest in [(later, [1]), (earlier, []), (thinned, [2])]:
            error = raised(lambda: function(OpenText(0, []), 0, *rest))
            self.assertEqual((type(error), error.value), (InvalidNumber, 0))


class Earlier(unittest.TestCase):
    def test_earlier_leads_back(self):
        chance = random.Random(16)
        for turn in range(1500):
            many = 1 + turn % 3
            text, at = random_text(chance, many, 4), chance.randrange(many)
            self.assertEqual(earlier(later(text, at, 1), at), text)

    def test_what_is_returned_leads_to_the_text(self):
        chance = random.Random(160)
        found = {True: 0, False: 0}
        for turn in range(3000):
            many = 1 + turn % 3
            text, at = random_text(chance, many, 3), chance.randrange(many)
            back = earlier(text, at)
            found[back is None] += 1
            if back is not None:
                self.assertEqual(later(back, at, 1), text)
                for point in cube(many, 2):
                    if point[at] > 0:
                        self.assertEqual(written(back, point), written(text, moved_point(point, at, point[at] - 1)))
        self.assertGreater(min(found.values()), 300)

    def test_none_only_where_there_is_none(self):
        # Of all small texts those are marked to which another one leads; no other one has one ahead.
        texts = list(small_texts(1))
        leads = {str(later(text, 0, 1).pieces()) for text in texts}
        missing = 0
        for text in texts:
            if earlier(text, 0) is None:
                missing += 1
                self.assertNotIn(str(text.pieces()), leads, text.pieces())
        self.assertGreater(missing, 1000)

    def test_what_is_to_be_taken_away_has_to_be_there(self):
        self.assertIsNone(earlier(OpenText(1, [("a", (0, 1))]), 0))
        self.assertEqual(earlier(OpenText(1, [("a", (1, 1))]), 0), OpenText(1, [("a", (0, 1))]))
        self.assertIsNone(earlier(OpenText(1, [("ab", (0, 1)), ("a", (1, 0)), ("c", (0, 1))]), 0))

    def test_letters_are_taken_from_powers_further_on(self):
        text = OpenText(2, [("ab", (0, 1, 0)), ("abc", (0, 0, 1)), ("ab", (1, 0, 0))])
        self.assertEqual(later(earlier(text, 0), 0, 1), text)
        self.assertEqual(earlier(text, 0), OpenText(2, [("ab", (0, 1, 0)), ("cab", (0, 0, 1))]))

    def test_where_the_unknown_does_not_stand(self):
        text = OpenText(2, [("ab", (3, 0, 2)), ("c", (1, 0, 0))])
        self.assertEqual(earlier(text, 0), text)
        self.assertEqual(earlier(OpenText(1, []), 0), OpenText(1, []))
        self.assertEqual(earlier(OpenText(3, [("abc", (5, 0, 0, 0))]), 2), OpenText(3, [("abc", (5, 0, 0, 0))]))

    def test_great_numbers(self):
        self.assertIsNone(earlier(OpenText(1, [("a", (1000, GREATEST))]), 0))
        self.assertIsNone(earlier(OpenText(2, [("ab", (0, BIG, 0)), ("a", (1, 0, 0)), ("ba", (0, 0, 1)), ("c", (1, 0, 0))]), 0))


class Thinned(unittest.TestCase):
    def test_thinned_writes_the_same_at_points_apart(self):
        chance = random.Random(17)
        found = {True: 0, False: 0}
        for turn in range(600):
            many = 1 + turn % 3
            text, at, by = random_text(chance, many), chance.randrange(many), chance.randint(1, 3)
            thin = thinned(text, at, by)
            divisible = all(form[at + 1] % by == 0 for _, form in text.pieces())
            self.assertIs(thin is not None, divisible)
            found[divisible] += 1
            if thin is not None:
                self.assertEqual([word for word, _ in thin.pieces()], [word for word, _ in text.pieces()])
                for point in cube(many, 2):
                    self.assertEqual(written(thin, moved_point(point, at, point[at] * by)), written(text, point))
        self.assertGreater(min(found.values()), 100)

    def test_great_numbers(self):
        text = OpenText(2, [("ab", (1, BIG, 7)), ("c", (0, 3 * BIG, 0))])
        self.assertEqual(thinned(text, 0, BIG), OpenText(2, [("ab", (1, 1, 7)), ("c", (0, 3, 0))]))
        self.assertEqual([thinned(text, 0, 3), thinned(text, 1, 7) == OpenText(2, [("ab", (1, BIG, 1)), ("c", (0, 3 * BIG, 0))])],
                         [None, True])
        self.assertEqual(thinned(OpenText(1, [("a", (5, 0))]), 0, GREATEST), OpenText(1, [("a", (5, 0))]))

    def test_at_the_limits(self):
        text = OpenText(3, [("a", (0, 1, GREATEST, 1)), ("b", (0, 1, 1, GREATEST))] * 1000)
        turned = OpenText(1, [("ab" * 499 + "a", (0, 1)), ("ab" * 499 + "a", (1, 0))])
        for call in [lambda: later(text, 0, 0), lambda: earlier(text, 0), lambda: thinned(text, 0, 1),
                     lambda: earlier(turned, 0)]:
            self.assertLess(seconds(call), SECONDS)


if __name__ == "__main__":
    unittest.main()
