"""Points [13] and [14]: what parts two open texts."""

import random
import unittest

from helpers import BIG, GREATEST, NO_TEXT, SECONDS, by_sum, plain_word, raised, random_pieces, seconds
from openloops.alike import decisive, parting
from openloops.errors import InvalidText, Unlike
from openloops.texts import OpenText, size, spread, written


def plain_parting(many, one, other, most):
    """Return the least point with a sum of at most `most` that parts pieces, None if there is none."""
    for point in by_sum(many, most):
        if plain_word(one, point) != plain_word(other, point):
            return point
    return None


def cut_pieces(chance, many, word, at):
    """Return powers for a word cut at random, but no piece has letters of unlike unknowns."""
    pieces = []
    for letter, number in zip(word, at):
        form = tuple(int(place == number) for place in range(many + 1))
        if pieces and pieces[-1][1] == form and chance.random() < 0.6:
            pieces[-1] = (pieces[-1][0] + letter, form)
        else:
            pieces.append((letter, form))
    return pieces


def how_many_powers(text):
    return len([form for _, form in text.pieces() if any(form[1:])])


class Alike(unittest.TestCase):
    def test_examples(self):
        one = OpenText(2, [("a", (0, 1, 0)), ("b", (1, 0, 0)), ("a", (0, 0, 1))])
        other = OpenText(2, [("a", (0, 0, 1)), ("b", (1, 0, 0)), ("a", (0, 1, 0))])
        self.assertEqual([decisive(one, other), parting(one, other), parting(one, one)], [[4, 8], [0, 1], None])
        self.assertEqual(parting(OpenText(1, [("ab", (0, 1)), ("ba", (0, 1))]),
                                 OpenText(1, [("ab", (0, 1)), ("ba", (1, 0))])), [0])

    def test_decisive_is_told_by_size_and_spread(self):
        one, other = OpenText(3, [("abc", (2, 0, 5, 0))]), OpenText(3, [("a", (0, BIG, 0, 0)), ("b", (1, 0, 0, 0))])
        self.assertEqual([size(one), spread(one), size(other), spread(other)], [9, 6, 2, BIG + 1])
        self.assertEqual(decisive(one, other), [10, 10 * (BIG + 1), 10 * (BIG + 1) ** 2])
        self.assertEqual([decisive(one, one), decisive(other, other)], [[10, 60, 360], [3, 3 * BIG + 3, 3 * (BIG + 1) ** 2]])
        self.assertEqual([decisive(OpenText(0, []), OpenText(0, [("a", (1,))])), decisive(OpenText(1, []), OpenText(1, []))],
                         [[], [1]])

    def test_decisive_decides(self):
        chance = random.Random(13)
        for turn in range(600):
            many = turn % 4
            one, other = [OpenText(many, random_pieces(chance, many, 2, longest=2, most=1)) for _ in range(2)]
            point = decisive(one, other)
            self.assertIs(written(one, point) == written(other, point), one == other)

    def test_the_least_point_by_plain_counting(self):
        chance = random.Random(14)
        late = 0
        for turn in range(2500):
            many = turn % 4
            one, other = [random_pieces(chance, many, chance.randint(1, 4), longest=2, most=1) for _ in range(2)]
            found = parting(OpenText(many, one), OpenText(many, other))
            if found is None:
                self.assertEqual(OpenText(many, one), OpenText(many, other))
                self.assertIsNone(plain_parting(many, one, other, 6))
            else:
                self.assertEqual(found, plain_parting(many, one, other, sum(found)))
                late += sum(found) > 0
        self.assertGreater(late, 200)

    def test_points_far_up(self):
        # What stands between the powers makes the words alike as long as one count is small.
        for many, one, other, wanted in [
                (2, [("a", (0, 1, 0)), ("b", (0, 0, 1))], [("b", (0, 0, 1)), ("a", (0, 1, 0))], [1, 1]),
                (3, [("a", (0, 1, 0, 0)), ("b", (0, 0, 1, 1))], [("b", (0, 0, 1, 1)), ("a", (0, 1, 0, 0))], [1, 0, 1]),
                (3, [("a", (0, 0, 0, 7)), ("b", (0, 1, 0, 0))], [("a", (0, 0, 0, 7)), ("b", (0, 1, 1, 0))], [0, 1, 0]),
                (1, [("a", (0, 2)), ("b", (1, 0))], [("a", (1, 1)), ("b", (1, 0))], [0]),
                (1, [("a", (0, 1)), ("b", (0, 1))], [("ab", (0, 1))], [2]),
                (2, [("a", (0, 1, 0)), ("ab", (0, 0, 1))], [("a", (0, 1, 1)), ("b", (0, 0, 1))], [0, 2]),
                (1, [("abc", (0, 1)), ("d", (0, 1))], [("ab", (0, 1)), ("cd", (0, 1))], [2]),
                (1, [("a", (0, 1)), ("bcd", (0, 1))], [("abc", (0, 1)), ("d", (0, 1))], [2]),
                (1, [("ab", (0, BIG)), ("a", (1, 0))], [("ab", (0, BIG + 1)), ("a", (1, 0))], [1])]:
            self.assertEqual(parting(OpenText(many, one), OpenText(many, other)), wanted)

    def test_the_smallest_sum_and_then_the_first_in_order(self):
        ab, mixed = [("a", (0, 0, 1)), ("b", (0, 0, 1))], [("ab", (0, 0, 1))]
        self.assertEqual(parting(OpenText(2, ab + [("c", (0, 1, 0))]), OpenText(2, mixed)), [1, 0])
        high, low = [("c", (0, 1, 0)), ("d", (0, 1, 0))], [("cd", (0, 1, 0))]
        self.assertEqual(parting(OpenText(2, ab + high), OpenText(2, mixed + low)), [0, 2])
        self.assertEqual(parting(OpenText(2, ab + high), OpenText(2, ab + low)), [2, 0])

    def test_words_that_are_cut_in_two_ways(self):
        # Where all counts are at most 1 both write what is left of one word, so the point is further up.
        chance = random.Random(141)
        late = 0
        for turn in range(1500):
            many = 1 + turn % 3
            word = "".join(chance.choice("ab") for _ in range(chance.randint(1, 8)))
            at = [chance.randint(1, many) for _ in word]
            one, other = [cut_pieces(chance, many, word, at) for _ in range(2)]
            found = parting(OpenText(many, one), OpenText(many, other))
            most = 5 if found is None else sum(found)
            self.assertEqual(found, plain_parting(many, one, other, most))
            late += most == 2
        self.assertGreater(late, 200)

    def test_the_product_of_the_numbers(self):
        chance = random.Random(140)
        greatest = 0
        for turn in range(3000):
            many = 1 + turn % 3
            pieces = random_pieces(chance, many, 6, longest=1, most=1)
            one, other = OpenText(many, pieces), OpenText(many, chance.sample(pieces, len(pieces)))
            point = parting(one, other)
            if point is not None:
                product = 1
                for number in point:
                    product *= number + 1
                greatest = max(greatest, product)
                self.assertLessEqual(product, 1 + how_many_powers(one) + how_many_powers(other))
        self.assertGreaterEqual(greatest, 4)

    def test_words_as_long_as_one_likes(self):
        # (ab)^x a and a (ba)^x are alike; what follows parts them only by its last letter.
        form = (0, GREATEST, BIG)
        one = OpenText(2, [("ab", form), ("a", (1, 0, 0)), ("c", form), ("a", (0, 0, BIG))])
        other = OpenText(2, [("a", (1, 0, 0)), ("ba", form), ("c", form), ("a", (0, 1, BIG))])
        self.assertEqual(parting(one, other), [1, 0])
        same = OpenText(2, [("a", (1, 0, 0)), ("ba", form), ("c", form), ("a", (0, 0, BIG))])
        self.assertIsNone(parting(one, same))

    def test_long_words_with_unlike_cuts(self):
        # At [1] the words a^(5B) are cut in unlike places by fixed pieces and powers.
        one = OpenText(1, [("aab", (0, 1)), ("aaa", (0, BIG)), ("b", (1, 0)), ("a", (0, 2 * BIG))])
        other = OpenText(1, [("aab", (0, 1)), ("a", (0, 3 * BIG)), ("b", (1, 0)), ("aa", (0, BIG))])
        self.assertEqual(one, other)
        third = OpenText(1, [("aab", (1, 0)), ("a", (0, 3 * BIG)), ("b", (1, 0)), ("aa", (0, BIG))])
        self.assertEqual([parting(one, third), parting(third, one)], [[0], [0]])
        late = OpenText(1, [("aab", (0, 1)), ("a", (0, 3 * BIG)), ("b", (1, 0)), ("aa", (0, BIG)), ("ba", (0, 1))])
        self.assertEqual(parting(late, one), [1])

    def test_errors(self):
        text = OpenText(1, [])
        for function in [decisive, parting]:
            for bad in NO_TEXT:
                for call in [lambda: function(bad, None), lambda: function(text, bad)]:
                    error = raised(call)
                    self.assertIs(type(error), InvalidText)
                    self.assertIs(error.value, bad)
            other = OpenText(2, [])
            error = raised(lambda: function(text, other))
            self.assertIs(type(error), Unlike)
            self.assertIs(error.value, other)

    def test_sixty_powers_together(self):
        chance = random.Random(60)
        alike = [(0, 1, 0, 0), (0, 0, 1, 0), (0, 0, 0, 1)]
        words = ["".join(chance.choice("ab") for _ in range(62)) for _ in range(30)]
        long = [(word, (0,) + tuple(chance.randint(1, GREATEST) for _ in range(3))) for word in words]
        swapped = long[:-1] + [(words[-1], (0, long[-1][1][1], long[-1][1][2], long[-1][1][3] - 1))]
        turned = [("ab"[at % 2], alike[at % 3]) for at in range(30)]
        behind = turned[:-2] + [turned[-1], turned[-2]]
        far = [("ab"[at % 2], alike[(at * at) % 3]) for at in range(30)]
        for one, other in [(long, swapped), (turned, behind), (far, far[::-1]), (turned, turned[::-1]), (long, long[::-1])]:
            texts = [OpenText(3, one), OpenText(3, other)]
            self.assertLess(seconds(lambda: parting(*texts)), SECONDS)
            self.assertIsNotNone(parting(*texts))
        texts = [OpenText(3, long), OpenText(3, swapped)]
        self.assertEqual(parting(*texts), [0, 0, 1])

    def test_shuffles_of_powers(self):
        # Many powers of few words: the least point is far from 0, and still found at once.
        first, second = [("a", (0, 1, 0, 0)), ("b", (0, 0, 1, 0))], [("b", (0, 0, 1, 0)), ("a", (0, 1, 0, 0))]
        one, other = first * 7, first * 7
        one, other = one + second, other[:-2] + second + first
        texts = [OpenText(3, one), OpenText(3, other)]
        self.assertEqual(parting(*texts), plain_parting(3, one, other, 8))


if __name__ == "__main__":
    unittest.main()
