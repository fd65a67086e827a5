"""Point [27], first part: what parts two makers, and machines behind makers."""

import random
import unittest

from helpers import AUTOMATON, MAKER, SECONDS, raised, seconds
from openloops.accepted import accepted
from openloops.automata import Automaton, accepts
from openloops.errors import InvalidAutomaton, InvalidMaker, TooLong, TooMany
from openloops.makers import Maker, made_word
from openloops.making import asked_behind, maker_behind, parting_input
from openloops.pointsets import points_leaving
from openloops.texts import OpenText
from test_automata import EVEN, random_automaton
from test_machines import words_up_to
from test_makers import ALPHABET, DROPS, STAYS, plain_made, random_maker

LONG = "ab" * 1000


def cycle(size, word="", itself=True):
    """Return a maker that goes round in so many states."""
    return Maker("", [[((state + 1) % size, word, itself)] for state in range(size)], closing=[""] * size)


class Parting(unittest.TestCase):
    def test_examples(self):
        again = Maker("b", [[(0, "b", False), (0, "", True)]], closing=[""])
        self.assertEqual([parting_input(MAKER, STAYS), parting_input(STAYS, again)], ["aa", None])

    def test_the_first_of_the_shortest_words(self):
        chance, words, found = random.Random(27), words_up_to(5, "abcd"), []
        for _ in range(400):
            one = random_maker(chance, chance.randint(1, 2), 1)
            other = random_maker(chance, chance.randint(1, 2), 1) if chance.random() < 0.5 else nearly(chance, one)
            wanted = next((word for word in words if plain_made(one, word) != plain_made(other, word)), None)
            self.assertEqual(parting_input(one, other), wanted)
            self.assertEqual(parting_input(other, one), wanted)
            found.append(wanted)
        self.assertGreater(len(set(found)), 5)
        self.assertIn(None, found)

    def test_makers_that_are_late(self):
        late = Maker("ab", [[(1, "", False), (2, "", False), (0, "", True)], [(1, "a", False), (2, "a", False), (0, "a", True)],
                            [(1, "b", False), (2, "b", False), (0, "b", True)]], closing=["", "a", "b"])
        self.assertIsNone(parting_input(late, STAYS))
        forgets = Maker("ab", late.rows(), closing=["", "a", ""])
        self.assertEqual(parting_input(forgets, STAYS), "b")

    def test_long_words(self):
        ends = [["z" if state == size - 1 else "" for state in range(size)] for size in [11, 12]]
        one, other = [Maker("", cycle(len(last)).rows(), closing=last) for last in ends]
        self.assertEqual(parting_input(one, other), "a" * 10)
        one = Maker("", cycle(11).rows(), closing=[""] * 10 + ["z"])
        other = Maker("", [[(state + 1, "", True)] for state in range(11)] + [[(11, "", True)]], closing=["z" if state == 10 else "" for state in range(12)])
        self.assertEqual(parting_input(one, other), "a" * 21)

    def test_the_last_letter(self):
        rows = [[(0, "", True)] * 25 + [(0, "", False)] * 2]
        self.assertEqual(parting_input(Maker(ALPHABET, rows, closing=[""]), STAYS), "z")
        rows = [[(0, letter, False) for letter in ALPHABET] + [(0, "x", False)]]
        self.assertIsNone(parting_input(Maker(ALPHABET, rows, closing=[""]), STAYS))

    def test_at_the_limits(self):
        one = Maker(ALPHABET, [[((state + 1) % 12, LONG, False)] * 27 for state in range(12)], closing=[LONG] * 12)
        other = Maker(ALPHABET, [[((state + 1) % 11, LONG, False)] * 27 for state in range(11)], closing=[LONG] * 11)
        self.assertIsNone(parting_input(one, other))
        self.assertLess(seconds(lambda: parting_input(one, other)), SECONDS)


def nearly(chance, maker):
    """Return a maker with one more state that does what one of the states does, and now and then not quite."""
    rows, closing = maker.rows(), maker.closing()
    twin = chance.randrange(len(rows))
    rows.append(list(rows[twin]))
    closing.append(closing[twin])
    for row in rows:
        for at, (state, word, itself) in enumerate(row):
            if state == twin and chance.random() < 0.5:
                row[at] = (len(rows) - 1, word, itself)
    if chance.random() < 0.5:
        closing[-1] = chance.choice(["", "a", closing[-1]])
    return Maker(maker.letters(), rows, start=maker.start(), closing=closing)


class Behind(unittest.TestCase):
    def test_examples(self):
        behind = maker_behind(MAKER, DROPS)
        self.assertEqual([behind.letters(), behind.rows()[1], made_word(behind, "aaaxab")],
                         ["ax", [(0, "", False), (0, "a", False), (0, "a", True)], "aab"])
        asked = asked_behind(MAKER, EVEN)
        self.assertEqual([asked.rows(), asked.ends()], [[[1, 0], [0, 2], [3, 2], [2, 0]], [0, 3]])
        self.assertEqual(accepted(OpenText(1, [("a", (0, 1)), ("b", (1, 0))]), asked), points_leaving(1, 0, 0, 2))

    def test_a_maker_behind_a_maker_writes_what_is_told(self):
        chance, words = random.Random(270), words_up_to(4)
        for _ in range(150):
            one, other = random_maker(chance), random_maker(chance)
            behind = maker_behind(one, other)
            for word in chance.sample(words, 40):
                self.assertEqual(made_word(behind, word), plain_made(other, plain_made(one, word)))
            self.assertEqual(behind.letters(), "".join(sorted(set(one.letters() + other.letters()))))
            self.assertEqual(behind.start(), 0)
            self.check_numbers(behind.letters(), [[entry[0] for entry in row] for row in behind.rows()])

    def test_an_automaton_behind_a_maker_accepts_what_is_told(self):
        chance, words = random.Random(271), words_up_to(4)
        for _ in range(150):
            maker, automaton = random_maker(chance), random_automaton(chance, chance.randint(1, 4))
            asked = asked_behind(maker, automaton)
            for word in chance.sample(words, 40):
                self.assertIs(accepts(asked, word), accepts(automaton, plain_made(maker, word)))
            self.assertEqual(asked.letters(), "".join(sorted(set(maker.letters() + automaton.letters()))))
            self.assertEqual(asked.start(), 0)
            self.check_numbers(asked.letters(), asked.rows())

    def check_numbers(self, letters, rows):
        """The states are numbered by the first words that lead to them, where d stands for all other letters."""
        found = [0]
        for state in found:
            for letter in "abcd":
                reached = rows[state][letters.index(letter) if letter in letters else len(letters)]
                if reached not in found:
                    found.append(reached)
        self.assertEqual(found, list(range(len(rows))))

    def test_the_entries(self):
        one = Maker("a", [[(0, "xy", True), (0, "y", False)]], closing=["yx"])
        other = Maker("x", [[(1, "u", False), (0, "v", True)], [(1, "", True), (0, "w", True)]], closing=["p", "q"])
        behind = maker_behind(one, other)
        self.assertEqual(behind.letters(), "ax")
        # For a: u for x, w and y itself for y, and v for a, behind which both write the letter itself.
        self.assertEqual(behind.rows()[0], [(0, "uwyv", True), (0, "vy", False), (0, "vy", False)])
        self.assertEqual(behind.closing(), ["vyuq"])
        self.assertEqual(maker_behind(STAYS, other).rows(), other.rows())
        self.assertEqual(maker_behind(other, STAYS).rows(), other.rows())

    def test_all_letters(self):
        left = Maker(ALPHABET[:13], [[(0, letter, True) for letter in ALPHABET[:13]] + [(0, "", False)]], closing=[""])
        right = Maker(ALPHABET[13:], [[(0, "", True)] * 12 + [(0, "z", False), (0, "", True)]], closing=["end"])
        behind = maker_behind(left, right)
        self.assertEqual(behind.letters(), ALPHABET)
        self.assertEqual(behind.rows()[0], [(0, letter, True) for letter in ALPHABET[:13]] + [(0, "", False)] * 14)
        behind = maker_behind(right, left)
        self.assertEqual(behind.rows()[0][:14], [(0, letter, True) for letter in ALPHABET[:13]] + [(0, "", False)])
        self.assertEqual(behind.rows()[0][25], behind.rows()[0][26])
        asked = asked_behind(STAYS, Automaton(ALPHABET, [[0] * 25 + [1, 0], [1] * 27], ends=[1]))
        self.assertEqual(asked.rows(), [[0] * 25 + [1, 1], [1] * 27])

    def test_pairs_up_to_12(self):
        self.assertEqual(len(maker_behind(cycle(3), cycle(4)).rows()), 12)
        self.assertEqual(len(maker_behind(cycle(12), cycle(12)).rows()), 12)
        states = Automaton("", [[(state + 1) % 4] for state in range(4)], ends=[2])
        self.assertEqual(len(asked_behind(cycle(3), states).rows()), 12)
        tail = Maker("", [[(min(state + 1, 11), "", True)] for state in range(12)], closing=[""] * 12)
        swing = Automaton("", [[1], [0]], ends=[])
        # Twelve steps to the end of the tail, and there both states of the swing: 13 pairs.
        for call, wanted in [(lambda: asked_behind(tail, swing), 13), (lambda: maker_behind(tail, cycle(2)), 13),
                             (lambda: maker_behind(cycle(11), cycle(12)), 132), (lambda: maker_behind(cycle(3), cycle(5)), 15),
                             (lambda: maker_behind(cycle(3, LONG), cycle(5, LONG)), 15)]:
            error = raised(call)
            self.assertEqual((type(error), error.value), (TooMany, wanted))

    def test_words_up_to_2000_letters(self):
        writes = Maker("", [[(0, "a" * 1000, False)]], closing=["a" * 999])
        self.assertEqual(maker_behind(writes, Maker("", [[(0, "b", True)]], closing=["cc"])).closing(), ["ba" * 999 + "cc"])
        self.assertEqual(maker_behind(writes, Maker("", [[(0, "b", True)]], closing=[""])).rows(), [[(0, "ba" * 1000, False)]])
        for one, other, wanted in [
                (writes, Maker("", [[(0, "b", True)]], closing=["ccc"]), 2001),
                (Maker("", [[(0, "a" * 1000, True)]], closing=[""]), Maker("", [[(0, "b", True)]], closing=[""]), 2001),
                (Maker("", [[(0, LONG, True)]], closing=[LONG]), Maker("", [[(0, LONG, True)]], closing=[""]), 2000 * 2001 + 2000),
                (Maker("", [[(0, LONG, True)]], closing=[LONG]), Maker("", [[(0, LONG, True)]], closing=[LONG]), 2000 * 2001 + 2000)]:
            error = raised(lambda: maker_behind(one, other))
            self.assertEqual((type(error), error.value), (TooLong, wanted))
        self.assertEqual(len(asked_behind(Maker("", [[(0, LONG, True)]], closing=[LONG]), EVEN).rows()), 2)

    def test_at_the_limits(self):
        chance = random.Random(272)
        one = Maker(ALPHABET, [[(chance.randrange(12), LONG, True) for _ in range(27)] for _ in range(12)], closing=[LONG] * 12)
        for call in [lambda: maker_behind(one, one), lambda: maker_behind(one, STAYS), lambda: maker_behind(STAYS, one),
                     lambda: asked_behind(one, EVEN)]:
            self.assertLess(seconds(lambda: raised(call)), SECONDS)

    def test_the_first_wrong_argument(self):
        for call, kind in [(lambda: asked_behind(None, None), InvalidMaker), (lambda: asked_behind(MAKER, MAKER), InvalidAutomaton),
                           (lambda: maker_behind(MAKER, AUTOMATON), InvalidMaker), (lambda: parting_input(AUTOMATON, 1), InvalidMaker)]:
            self.assertIs(type(raised(call)), kind)


if __name__ == "__main__":
    unittest.main()
