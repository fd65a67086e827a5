"""Point [26]: makers."""

import random
import unittest

from helpers import MAKER, SECONDS, raised, seconds, spoil
from openloops.automata import Automaton
from openloops.errors import InvalidList, InvalidMaker, InvalidNumber, InvalidWord, TooLong
from openloops.makers import Maker, made_word, maker_states

ALPHABET = "abcdefghijklmnopqrstuvwxyz"
STAYS = Maker("", [[(0, "", True)]], closing=[""])
DROPS = Maker("x", [[(0, "", False), (0, "", True)]], closing=[""])


def plain_made(maker, word):
    """Return what a maker writes of a word, letter by letter."""
    state, made, letters = maker.start(), "", maker.letters()
    for letter in word:
        entry = maker.rows()[state][letters.index(letter) if letter in letters else len(letters)]
        made += entry[1] + (letter if entry[2] else "")
        state = entry[0]
    return made + maker.closing()[state]


def random_maker(chance, how_many=None, longest=2):
    """Return a maker, the same for the same chance."""
    letters = "".join(letter for letter in "abc" if chance.random() < 0.5)
    states = how_many or chance.randint(1, 3)

    def word():
        return "".join(chance.choice("abc") for _ in range(chance.randint(0, longest)))

    rows = [[(chance.randrange(states), word(), chance.random() < 0.5) for _ in range(len(letters) + 1)]
            for _ in range(states)]
    return Maker(letters, rows, start=chance.randrange(states), closing=[word() for _ in range(states)])


class Makers(unittest.TestCase):
    def test_example(self):
        self.assertEqual(made_word(MAKER, "aaabaac"), "xabxc")

    def test_what_it_was_made_of(self):
        rows, closing = [[(0, "ab", True)], [(0, "", False)]], ["", "c"]
        maker = Maker("", rows, start=1, closing=closing)
        for value in [rows, closing, maker.rows(), maker.closing()]:
            spoil(value)
        self.assertEqual([maker.letters(), maker.rows(), maker.start(), maker.closing()],
                         ["", [[(0, "ab", True)], [(0, "", False)]], 1, ["", "c"]])
        self.assertEqual(STAYS.start(), 0)

    def test_equal_just_if_made_of_the_same(self):
        rows = [[(0, "", True)] * 2, [(1, "", True)] * 2]
        made = [("a", rows, 0, ["", ""]), ("b", rows, 0, ["", ""]), ("a", rows, 1, ["", ""]), ("a", rows, 0, ["", "a"]),
                ("a", [[(0, "", False)] * 2, rows[1]], 0, ["", ""]), ("a", [[(1, "", True)] * 2, rows[1]], 0, ["", ""])]
        for at, (letters, entries, start, closing) in enumerate(made):
            for place, (others, table, begin, last) in enumerate(made):
                same = Maker(letters, entries, start=start, closing=closing) == Maker(others, table, start=begin, closing=last)
                self.assertIs(same, at == place)
        self.assertFalse(maker_states(STAYS) == STAYS)

    def test_start_and_closing_by_name(self):
        self.assertRaises(TypeError, lambda: Maker("", [[(0, "", True)]], 0, [""]))
        self.assertRaises(TypeError, lambda: Maker("", [[(0, "", True)]]))

    def test_the_edges(self):
        long = "ab" * 1000
        maker = Maker(ALPHABET, [[(11, long, True)] * 27] * 12, start=11, closing=[long] * 12)
        self.assertEqual(made_word(maker, "z"), long + "z" + long)
        rows = [[(0, "", True)]] * 13
        for call, kind, thing in [
                (lambda: Maker("", rows, closing=[""] * 13), InvalidList, rows),
                (lambda: Maker("", [], closing=[]), InvalidList, []),
                (lambda: Maker("", [[(0, long + "a", True)]], closing=[""]), InvalidList, [[(0, long + "a", True)]]),
                (lambda: Maker("", [[(0, "", 1)]], closing=None), InvalidList, [[(0, "", 1)]]),
                (lambda: Maker("", [[(0, "", True)]], start=1, closing=None), InvalidNumber, 1),
                (lambda: Maker("", [[(0, "", True)]], start=False, closing=[]), InvalidNumber, False),
                (lambda: Maker("", [[(0, "", True)]], closing=[long + "a"]), InvalidList, [long + "a"]),
                (lambda: Maker("", [[(0, "", True)]], closing=["", ""]), InvalidList, ["", ""]),
                (lambda: Maker("ba", None, start=None, closing=None), InvalidWord, "ba")]:
            error = raised(call)
            self.assertEqual((type(error), error.value), (kind, thing))

    def test_states(self):
        self.assertEqual(maker_states(MAKER), Automaton("a", [[1, 0], [0, 0]], ends=[]))
        chance = random.Random(26)
        for _ in range(50):
            maker = random_maker(chance)
            rows = [[entry[0] for entry in row] for row in maker.rows()]
            self.assertEqual(maker_states(maker), Automaton(maker.letters(), rows, start=maker.start(), ends=[]))


class Made(unittest.TestCase):
    def test_made_word(self):
        chance = random.Random(260)
        for _ in range(200):
            maker = random_maker(chance)
            word = "".join(chance.choice("abcz") for _ in range(chance.randint(0, 8)))
            self.assertEqual(made_word(maker, word), plain_made(maker, word))

    def test_as_many_letters_as_allowed(self):
        doubles = Maker("", [[(0, "x", True)]], closing=["yy"])
        self.assertEqual(len(made_word(doubles, "a" * 9999)), 20000)
        once = Maker("", [[(0, "", True)]], closing=["y"])
        self.assertEqual(len(made_word(once, "a" * 19999)), 20000)
        for maker, word, wanted in [(once, "a" * 20000, 20001), (doubles, "a" * 10000, 20002),
                                    (Maker("", [[(0, "b" * 2000, True)]], closing=["c" * 2000]), "a" * 20000, 40022000)]:
            error = raised(lambda: made_word(maker, word))
            self.assertEqual((type(error), error.value), (TooLong, wanted))
        self.assertLess(seconds(lambda: raised(lambda: made_word(maker, word))), SECONDS)

    def test_the_first_wrong_argument(self):
        self.assertIs(type(raised(lambda: made_word(None, None))), InvalidMaker)
        self.assertIs(type(raised(lambda: made_word(maker_states(MAKER), "a"))), InvalidMaker)
        self.assertIs(type(raised(lambda: made_word(MAKER, "a" * 20001))), InvalidWord)


if __name__ == "__main__":
    unittest.main()
