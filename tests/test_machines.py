"""Point [23]: what parts two automata, and the least automaton."""

import itertools
import random
import unittest

from helpers import AUTOMATON, NO_AUTOMATON, SECONDS, raised, seconds
from openloops.automata import Automaton, accepts
from openloops.errors import InvalidAutomaton
from openloops.machines import least_automaton, parting_word
from test_automata import EVEN, FINDS, plain_state, random_automaton

ALPHABET = "abcdefghijklmnopqrstuvwxyz"


def words_up_to(length, letters="abcz"):
    """Return all words of these letters, the shorter ones first and those of one length in order."""
    return ["".join(word) for size in range(length + 1) for word in itertools.product(letters, repeat=size)]


def unlike_states(automaton):
    """Return the pairs of states behind which no short word is accepted from just one."""
    letters, rows, ends = automaton.letters(), automaton.rows(), automaton.ends()
    tests = words_up_to(4, sorted(set(letters + "z")))
    told = [[plain_state(letters, rows, state, word) in ends for word in tests] for state in range(len(rows))]
    return [pair for pair in itertools.combinations(range(len(rows)), 2) if told[pair[0]] == told[pair[1]]]


class Parting(unittest.TestCase):
    def test_examples(self):
        self.assertEqual([parting_word(EVEN, FINDS), parting_word(FINDS, FINDS)], ["", None])

    def test_the_first_of_the_shortest_words(self):
        # The letters of these automata are some of a, b and c, so d stands for all others.
        chance, words, found = random.Random(23), words_up_to(5, "abcd"), []
        for _ in range(150):
            one, other = random_automaton(chance, chance.randint(1, 3)), random_automaton(chance, chance.randint(1, 3))
            wanted = next((word for word in words if accepts(one, word) != accepts(other, word)), None)
            told = parting_word(one, other)
            if wanted is not None:
                self.assertEqual(told, wanted)
                found.append(wanted)
            elif told is not None:
                self.assertGreater(len(told), 5)
                self.assertNotEqual(accepts(one, told), accepts(other, told))
            self.assertEqual(parting_word(other, one), told)
        self.assertGreater(len(set(found)), 4)

    def test_letters_that_stand_in_neither(self):
        self.assertEqual(parting_word(Automaton("a", [[0, 1], [1, 1]], ends=[1]), Automaton("", [[0]], ends=[])), "b")
        rows = [[0] * 25 + [1], [1] * 26]
        self.assertEqual(parting_word(Automaton(ALPHABET[:25], rows, ends=[1]), Automaton("", [[0]], ends=[])), "z")

    def test_a_long_word(self):
        one, other = [Automaton("", [[(state + 1) % size] for state in range(size)], ends=[0]) for size in [11, 12]]
        self.assertEqual(parting_word(one, other), "a" * 11)
        one = Automaton("", [[(state + 1) % 11] for state in range(11)], ends=list(range(10)))
        other = Automaton("", [[(state + 1) % 12] for state in range(12)], ends=list(range(12)))
        self.assertEqual(parting_word(one, other), "a" * 10)
        far = Automaton("", [[1], [2], [3], [4], [5], [6], [7], [8], [9], [10], [11], [11]], ends=[11])
        self.assertEqual(parting_word(far, Automaton("", [[0]], ends=[])), "a" * 11)

    def test_errors(self):
        for bad in NO_AUTOMATON:
            for call in [lambda: parting_word(bad, bad), lambda: parting_word(AUTOMATON, bad), lambda: least_automaton(bad)]:
                error = raised(call)
                self.assertIs(type(error), InvalidAutomaton)
                self.assertIs(error.value, bad)


class Least(unittest.TestCase):
    def test_example(self):
        many = Automaton("az", [[4, 4, 4], [2, 1, 1], [3, 2, 2], [4, 3, 3], [1, 4, 4]], start=1, ends=[1, 3])
        self.assertEqual(least_automaton(many), EVEN)

    def test_same_words_and_no_two_states_alike(self):
        chance, words = random.Random(230), words_up_to(5)
        for _ in range(150):
            automaton = random_automaton(chance, chance.randint(1, 6))
            least = least_automaton(automaton)
            self.assertEqual([accepts(least, word) for word in words], [accepts(automaton, word) for word in words])
            self.assertEqual(unlike_states(least), [])
            self.assertIsNone(parting_word(automaton, least))
            self.assertEqual(least_automaton(least), least)

    def test_numbers_and_letters(self):
        chance, words = random.Random(231), words_up_to(6, "abcd")
        for _ in range(100):
            least = least_automaton(random_automaton(chance, chance.randint(1, 6)))
            letters, rows = least.letters(), least.rows()
            first = {}
            for word in words:
                first.setdefault(plain_state(letters, rows, 0, word), word)
            self.assertEqual(least.start(), 0)
            self.assertEqual(list(first), list(range(len(rows))))
            for at, letter in enumerate(letters):
                self.assertTrue(any(row[at] != row[-1] for row in rows), letter)

    def test_equal_exactly_if_the_same_words(self):
        chance, alike = random.Random(232), 0
        for _ in range(300):
            one, other = random_automaton(chance, chance.randint(1, 3)), random_automaton(chance, chance.randint(1, 3))
            same = parting_word(one, other) is None
            self.assertIs(least_automaton(one) == least_automaton(other), same)
            alike += same
        self.assertGreater(alike, 10)

    def test_all_letters(self):
        rows = [[1] + [0] * 25 + [1], [1] * 27]
        self.assertEqual(least_automaton(Automaton(ALPHABET, rows, ends=[1])), Automaton("a", [[1, 0], [1, 1]], ends=[1]))
        # What z does is what all letters do that are not named, so those that do otherwise are named.
        least = least_automaton(Automaton(ALPHABET[:25], [[0] * 25 + [1], [1] * 26], ends=[1]))
        self.assertEqual(least, Automaton(ALPHABET[:25], [[0] * 25 + [1], [1] * 26], ends=[1]))
        self.assertEqual(least_automaton(Automaton("z", [[1, 0], [1, 1]], ends=[1])), least)
        self.assertEqual(least_automaton(Automaton("", [[0]], ends=[0])), Automaton("", [[0]], ends=[0]))

    def test_at_the_limits(self):
        chance = random.Random(233)
        one, other = [Automaton(ALPHABET, [[chance.randrange(12) for _ in range(27)] for _ in range(12)],
                                start=chance.randrange(12), ends=[3]) for _ in range(2)]
        self.assertLess(seconds(lambda: parting_word(one, other)), SECONDS)
        self.assertLess(seconds(lambda: parting_word(one, one)), SECONDS)
        self.assertLess(seconds(lambda: least_automaton(one)), SECONDS)
        chain = Automaton("", [[min(state + 1, 11)] for state in range(12)], ends=[11])
        self.assertEqual(least_automaton(chain), chain)


if __name__ == "__main__":
    unittest.main()
