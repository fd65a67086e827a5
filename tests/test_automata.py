"""Point [22]: automata."""

import itertools
import random
import unittest

from helpers import AUTOMATON, BIG, SECONDS, raised, seconds, spoil
from openloops.automata import Automaton, accepts, moved, rounds, state_behind
from openloops.errors import InvalidAutomaton, InvalidList, InvalidNumber, InvalidWord

EVEN = Automaton("a", [[1, 0], [0, 1]], ends=[0])
FINDS = Automaton("ab", [[1, 0, 0], [1, 2, 0], [1, 3, 0], [3, 3, 3]], ends=[3])


def plain_state(letters, rows, state, word):
    """Return the state in which a word ends, letter by letter."""
    for letter in word:
        column = letters.index(letter) if letter in letters else len(letters)
        state = rows[state][column]
    return state


def random_automaton(chance, how_many=None):
    letters = "".join(letter for letter in "abc" if chance.random() < 0.6)
    states = how_many or chance.randint(1, 5)
    rows = [[chance.randrange(states) for _ in range(len(letters) + 1)] for _ in range(states)]
    ends = [state for state in range(states) if chance.random() < 0.5]
    return Automaton(letters, rows, start=chance.randrange(states), ends=ends)


class Automata(unittest.TestCase):
    def test_examples(self):
        self.assertEqual([moved(FINDS, "ab"), rounds(FINDS, "b"), rounds(EVEN, "aba"), rounds(EVEN, "a"),
                          state_behind(EVEN, "abc" * 5)], [[2, 2, 2, 3], (2, 1), (0, 1), (0, 2), 1])
        self.assertIs(accepts(FINDS, "cabba"), True)

    def test_what_it_was_made_of(self):
        rows, ends = [[1, 0], [0, 1]], [0, 1]
        automaton = Automaton("x", rows, start=1, ends=ends)
        spoil(rows)
        spoil(ends)
        spoil(automaton.rows())
        spoil(automaton.ends())
        self.assertEqual([automaton.letters(), automaton.rows(), automaton.start(), automaton.ends()],
                         ["x", [[1, 0], [0, 1]], 1, [0, 1]])
        self.assertEqual(Automaton("", [[0]], ends=[]).start(), 0)

    def test_equal_just_if_made_of_the_same(self):
        made = [("a", [[1, 0], [0, 1]], 0, [0]), ("b", [[1, 0], [0, 1]], 0, [0]), ("a", [[1, 1], [0, 1]], 0, [0]),
                ("a", [[1, 0], [0, 1]], 1, [0]), ("a", [[1, 0], [0, 1]], 0, [1]), ("", [[0], [1]], 0, [0])]
        for at, (letters, rows, start, ends) in enumerate(made):
            for place, (others, table, begin, last) in enumerate(made):
                same = Automaton(letters, rows, start=start, ends=ends) == Automaton(others, table, start=begin, ends=last)
                self.assertIs(same, at == place)

    def test_start_and_ends_by_name(self):
        self.assertRaises(TypeError, lambda: Automaton("", [[0]], 0, []))
        self.assertRaises(TypeError, lambda: Automaton("", [[0]]))

    def test_the_edges(self):
        letters = "abcdefghijklmnopqrstuvwxyz"
        self.assertEqual(Automaton(letters, [[0] * 27], ends=[0]).letters(), letters)
        twelve = [[(state + 1) % 12] for state in range(12)]
        automaton = Automaton("", twelve, start=11, ends=list(range(12)))
        self.assertEqual([moved(automaton, "z")[11], rounds(automaton, "abc"), rounds(automaton, "")], [0, (0, 4), (0, 1)])
        rows = twelve + [[0]]
        error = raised(lambda: Automaton("", rows, ends=[]))
        self.assertIs(type(error), InvalidList)
        self.assertIs(error.value, rows)
        self.assertIs(type(raised(lambda: Automaton("", [], ends=[]))), InvalidList)

    def test_the_first_wrong_argument(self):
        for letters, rows, start, ends, kind, thing in [
                ("ba", None, None, None, InvalidWord, "ba"), ("aa", [], 0, [], InvalidWord, "aa"),
                ("a", [[0]], None, None, InvalidList, [[0]]), ("a", [[0, 1]], 0, [], InvalidList, [[0, 1]]),
                ("a", [[0, 0]], 1, None, InvalidNumber, 1), ("a", [[0, 0]], True, [], InvalidNumber, True),
                ("a", [[0, 0]], BIG, [], InvalidNumber, BIG), ("a", [[0, 0]], 0, [0, 0], InvalidList, [0, 0]),
                ("a", [[0, 0], [1, 1]], 0, [1, 0], InvalidList, [1, 0]), ("a", [[0, 0]], 0, [1], InvalidList, [1])]:
            error = raised(lambda: Automaton(letters, rows, start=start, ends=ends))
            self.assertEqual((type(error), error.value), (kind, thing))


class Reading(unittest.TestCase):
    def test_moved_and_state_behind_and_accepts(self):
        chance = random.Random(22)
        for _ in range(200):
            automaton = random_automaton(chance)
            letters, rows = automaton.letters(), automaton.rows()
            for _ in range(5):
                word = "".join(chance.choice("abcz") for _ in range(chance.randint(0, 8)))
                wanted = [plain_state(letters, rows, state, word) for state in range(len(rows))]
                self.assertEqual(moved(automaton, word), wanted)
                self.assertEqual(state_behind(automaton, word), wanted[automaton.start()])
                self.assertIs(accepts(automaton, word), wanted[automaton.start()] in automaton.ends())

    def test_the_empty_word_and_no_letters(self):
        automaton = Automaton("", [[1], [1]], ends=[1])
        self.assertEqual([moved(automaton, ""), moved(automaton, "xyz"), accepts(automaton, ""), accepts(automaton, "q")],
                         [[0, 1], [1, 1], False, True])
        self.assertEqual([rounds(automaton, ""), rounds(automaton, "q")], [(0, 1), (1, 1)])

    def test_rounds_are_the_least(self):
        chance = random.Random(220)
        for _ in range(300):
            automaton = random_automaton(chance)
            word = "".join(chance.choice("abcz") for _ in range(chance.randint(0, 4)))
            threshold, period = rounds(automaton, word)
            ends = [moved(automaton, word * times) for times in range(40)]

            def holds(low, step):
                return all(ends[times] == ends[times + step] for times in range(low, 40 - step))

            self.assertTrue(holds(threshold, period))
            self.assertFalse(any(holds(threshold - 1, step) for step in range(1, 13)) if threshold > 0 else False)
            self.assertFalse(any(holds(low, step) for low in range(7) for step in range(1, period)))

    def test_rounds_of_cycles_side_by_side(self):
        cycles = Automaton("", [[1], [0], [3], [4], [2], [6], [7], [8], [5], [0], [9], [10]], ends=[])
        self.assertEqual([rounds(cycles, "a"), rounds(cycles, "aa"), rounds(cycles, "a" * 12)], [(3, 12), (2, 6), (1, 1)])
        landau = Automaton("", [[1], [2], [0], [4], [5], [6], [3], [8], [9], [10], [11], [7]], ends=[])
        self.assertEqual(rounds(landau, "q"), (0, 60))

    def test_words(self):
        for function in [moved, rounds, state_behind, accepts]:
            for bad in ["A", "a b", "a\n", "a" * 20001, None, 3, ["a"], ("a",), True]:
                error = raised(lambda: function(AUTOMATON, bad))
                self.assertIs(type(error), InvalidWord)
                self.assertIs(error.value, bad)
            self.assertIs(type(raised(lambda: function(None, "A"))), InvalidAutomaton)
            self.assertIsNone(raised(lambda: function(AUTOMATON, "a" * 20000)))

    def test_at_the_limits(self):
        chance = random.Random(221)
        automaton = random_automaton(chance, 12)
        word = "".join(chance.choice("abcz") for _ in range(20000))
        for function in [moved, rounds, state_behind, accepts]:
            self.assertLess(seconds(lambda: function(automaton, word)), SECONDS)
        letters, rows = automaton.letters(), automaton.rows()
        self.assertEqual(state_behind(automaton, word), plain_state(letters, rows, automaton.start(), word))


class Names(unittest.TestCase):
    def test_all_short_words(self):
        words = ["".join(word) for length in range(6) for word in itertools.product("abc", repeat=length)]
        self.assertEqual([word for word in words if accepts(FINDS, word)], [word for word in words if "abb" in word])
        self.assertEqual([word for word in words if accepts(EVEN, word)],
                         [word for word in words if word.count("a") % 2 == 0])


if __name__ == "__main__":
    unittest.main()
