"""Points [7] and [8]: pieces and their normal lists."""

import random
import unittest

from helpers import BIG, DEEP, GREATEST, TEXT, cube, plain_word, raised, random_pieces, seconds, SECONDS
from openloops.errors import InvalidNumber, InvalidPiece, InvalidPieces, TooLong
from openloops.pieces import is_normal, normal

NO_PIECE = [None, True, 1, "ab", (), ("ab",), ("ab", (1, 0), 1), ["ab", (1, 0)], ("ab", [1, 0]), ("ab", (1,)),
            ("ab", (1, 0, 0)), ("ab", (True, 0)), ("ab", (0, False)), ("ab", (-1, 0)), ("aB", (1, 0)), ("a b", (1, 0)),
            (1, (1, 0)), (None, (1, 0)), (["a"], (1, 0)), ("a\n", (1, 0)), ("a" * 2001, (0, 0)), ((1, 0), "ab"), {},
            DEEP, TEXT]


def is_plain(form):
    return not any(form[1:])


def is_several_times_a_shorter_word(word):
    return any(word[:length] * (len(word) // length) == word for length in range(1, len(word)))


def plainly_normal(many, pieces):
    """Tell whether pieces are normal, as the document says it."""
    one = (1,) + (0,) * many
    for word, form in pieces:
        power = form[0] == 0 and not is_plain(form) and not is_several_times_a_shorter_word(word)
        if word == "" or not (form == one or power):
            return False
    for (word, form), (mate, other) in zip(pieces, pieces[1:]):
        if is_plain(form) and (is_plain(other) or word[-1] == mate[-1]):
            return False
        if not is_plain(form) and not is_plain(other) and word == mate:
            return False
    return True


def next_steps(many, pieces):
    """Return the lists to which each single step of the document leads."""
    one = (1,) + (0,) * many
    found = []

    def put(at, until, new):
        found.append(pieces[:at] + new + pieces[until:])

    for at, (word, form) in enumerate(pieces):
        if word == "" or not any(form):
            put(at, at + 1, [])
        elif is_plain(form):
            if form != one:
                put(at, at + 1, [(word * form[0], one)])
        else:
            for length in range(1, len(word)):
                if word[:length] * (len(word) // length) == word:
                    put(at, at + 1, [(word[:length], tuple(number * (len(word) // length) for number in form))])
                    break
            if form[0] > 0:
                put(at, at + 1, [(word, (0,) + form[1:]), (word * form[0], one)])
    for at, ((word, form), (mate, other)) in enumerate(zip(pieces, pieces[1:])):
        if form == one and other == one:
            put(at, at + 2, [(word + mate, one)])
        if not is_plain(form) and not is_plain(other) and word == mate and word != "":
            put(at, at + 2, [(word, tuple(map(sum, zip(form, other))))])
        if form == one and not is_plain(other) and word != "" and mate != "" and word[-1] == mate[-1]:
            put(at, at + 2, [(word[:-1], one), (mate[-1] + mate[:-1], other), (mate[-1], one)])
    return found


class Normal(unittest.TestCase):
    def test_examples(self):
        self.assertEqual(normal(1, [("ab", (1, 0)), ("ab", (0, 2)), ("abab", (1, 1))]),
                         [('ab', (0, 4)), ('ababab', (1, 0))])
        self.assertEqual(normal(1, [("xa", (1, 0)), ("ba", (1, 1)), ("", (7, 7)), ("c", (0, 0))]),
                         [('x', (1, 0)), ('ab', (0, 1)), ('aba', (1, 0))])
        self.assertEqual(normal(2, [("ab", (0, 1, 0)), ("ab", (1, 0, 0)), ("b", (0, 0, 1))]),
                         [('ab', (0, 1, 0)), ('a', (1, 0, 0)), ('b', (0, 0, 1)), ('b', (1, 0, 0))])
        self.assertEqual([is_normal(1, [("ab", (0, 1)), ("a", (1, 0))]), is_normal(1, [("b", (1, 0)), ("ab", (0, 1))]),
                          is_normal(0, [])], [True, False, True])

    def test_normal_lists_write_the_same_and_are_normal(self):
        chance = random.Random(8)
        for turn in range(1500):
            many = turn % 4
            pieces = random_pieces(chance, many, chance.randint(0, 6), longest=4)
            found = normal(many, pieces)
            self.assertTrue(plainly_normal(many, found), pieces)
            self.assertTrue(is_normal(many, found), pieces)
            self.assertEqual(normal(many, found), found)
            for point in cube(many, 2):
                self.assertEqual(plain_word(found, point), plain_word(pieces, point), pieces)

    def test_steps_in_any_order_lead_to_the_normal_list(self):
        chance = random.Random(88)
        for turn in range(400):
            many = turn % 4
            pieces = random_pieces(chance, many, chance.randint(0, 5))
            wanted, steps = normal(many, pieces), next_steps(many, pieces)
            while steps:
                pieces = chance.choice(steps)
                steps = next_steps(many, pieces)
            self.assertEqual(pieces, wanted)

    def test_is_normal_says_what_the_document_says(self):
        chance = random.Random(888)
        seen = {True: 0, False: 0}
        for turn in range(4000):
            many = turn % 4
            pieces = []
            for word, form in random_pieces(chance, many, chance.randint(0, 3), longest=2, most=1):
                pieces.append((word, form) if chance.random() < 0.7 else (word, (0,) + form[1:]))
            wanted = plainly_normal(many, pieces)
            seen[wanted] += 1
            self.assertIs(is_normal(many, pieces), wanted, pieces)
        self.assertGreater(min(seen.values()), 100)

    def test_no_pieces(self):
        for many in range(4):
            self.assertEqual(normal(many, []), [])
            self.assertEqual(normal(many, [("", (BIG,) * (many + 1)), ("ab", (0,) * (many + 1))]), [])
            self.assertIs(is_normal(many, []), True)

    def test_a_shorter_word_several_times(self):
        self.assertEqual(normal(1, [("a" * 1000, (1, BIG))]), [("a", (0, 1000 * BIG)), ("a" * 1000, (1, 0))])
        self.assertEqual(normal(1, [("abaab" * 3, (0, 2))]), [("abaab", (0, 6))])
        self.assertEqual(normal(1, [("abaaba" * 100, (0, 1))]), [("aba", (0, 200))])
        self.assertEqual(normal(0, [("abab", (2,))]), [("abababab", (1,))])

    def test_powers_meet_when_what_stood_between_has_moved(self):
        self.assertEqual(normal(1, [("ab", (0, 1)), ("ab", (5, 0)), ("ab", (0, 2))]), [("ab", (0, 3)), ("ab" * 5, (1, 0))])
        self.assertEqual(normal(1, [("ab", (0, 1)), ("a", (1, 0)), ("ba", (0, 2))]), [("ab", (0, 3)), ("a", (1, 0))])
        self.assertEqual(normal(2, [("ba", (0, 1, 0)), ("b", (1, 0, 0)), ("ab", (1, 0, 1)), ("a", (1, 0, 0))]),
                         [("ba", (0, 1, 1)), ("baba", (1, 0, 0))])

    def test_wrong_pieces(self):
        for bad in NO_PIECE:
            pieces = [("a", (1, 1)), bad, ("A", (1, 0))]
            error = raised(lambda: normal(1, pieces))
            self.assertIs(type(error), InvalidPiece, bad)
            self.assertIs(error.value, bad)
            self.assertIs(is_normal(1, [bad]), False)

    def test_the_items_are_looked_at_before_the_measure(self):
        error = raised(lambda: normal(1, [("a", (2001, 0)), ("a", (1,))]))
        self.assertEqual((type(error), error.value), (InvalidPiece, ("a", (1,))))

    def test_how_many_pieces(self):
        pieces = [("", (1, 1))] * 5000
        self.assertEqual(normal(1, pieces), [])
        pieces = pieces + [None]
        error = raised(lambda: normal(1, pieces))
        self.assertIs(type(error), InvalidPieces)
        self.assertIs(error.value, pieces)
        self.assertIs(is_normal(1, pieces), False)

    def test_the_measure(self):
        for many, pieces, wanted in [
                (1, [("a", (2000, 0))], 2000), (1, [("a", (1999, BIG))], 2000), (1, [("ab", (0, 1))] * 1000, 2000),
                (0, [("a" * 2000, (1,))], 2000), (0, [("a" * 2000, (0,)), ("", (BIG,))], 0),
                (1, [("a", (2001, 0))], 2001), (1, [("a", (2000, 1))], 2001), (1, [("ab", (1000, 1))], 2002),
                (0, [("a" * 1000, (2,)), ("b", (1,))], 2001), (1, [("ab", (BIG, 1)), ("a", (1, 0))], 2 * BIG + 3),
                (3, [("abc", (0, 0, 0, 1))] * 700, 2100), (1, [("a" * 2000, (0, 1)), ("a", (1, 0))], 2001)]:
            if wanted <= 2000:
                self.assertTrue(is_normal(many, normal(many, pieces)))
            else:
                error = raised(lambda: normal(many, pieces))
                self.assertEqual((type(error), error.value), (TooLong, wanted))

    def test_is_normal_keeps_to_the_limits(self):
        self.assertIs(is_normal(0, [("a" * 2000, (1,))]), True)
        self.assertIs(is_normal(0, [("a" * 2001, (1,))]), False)
        self.assertIs(is_normal(1, [("a" * 1999, (1, 0)), ("b", (0, GREATEST))]), True)
        self.assertIs(is_normal(1, [("a" * 2000, (1, 0)), ("b", (0, 1))]), False)

    def test_is_normal_takes_any_value(self):
        for value in [None, True, 1, "", (), (("ab", (1,)),), {}, DEEP, TEXT, [None], [("ab", (True,))], ["ab"]]:
            self.assertIs(is_normal(0, value), False)
        for bad in [None, True, -1, 4, "0"]:
            self.assertIs(type(raised(lambda: is_normal(bad, None))), InvalidNumber)

    def test_at_the_limits(self):
        calls = [
            lambda: normal(3, [("ab" * 1000, (0, 0, 0, 0))] * 5000),
            lambda: normal(1, [("ab", (500, 0))] + [("ab", (0, GREATEST))] * 499),
            lambda: normal(1, [("a" * 1999 + "b", (0, GREATEST))]),
            lambda: normal(3, [("a", (0, 1, 0, 0)), ("b", (0, 0, GREATEST, 0))] * 1000),
            lambda: normal(1, [("a", (2000, 0))] + [("", (1, 1))] * 4999),
            lambda: normal(2, [("a", (1, 0, 0)), ("a", (0, 1, 1))] * 1000),
            lambda: is_normal(3, [("a", (0, 1, 0, 0)), ("b", (0, 0, GREATEST, 0))] * 1000),
        ]
        for call in calls:
            self.assertLess(seconds(call), SECONDS)


if __name__ == "__main__":
    unittest.main()
