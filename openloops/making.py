"""What parts two makers, and what stands behind a maker: another maker, or an automaton."""

from openloops.automata import MOST_STATES, Automaton, columns_of, moved, require_automaton
from openloops.basics import ALPHABET
from openloops.errors import TooLong, TooMany
from openloops.machines import first_words
from openloops.makers import Maker, letters_of_parts, maker_states, parts_made, require_maker
from openloops.pieces import LONGEST_PIECE


def parting_input(one, other):
    """Return the first of the shortest words of which two makers write unlike words, None if there is none.

    As long as no such word is found, the closing words tell by how much one maker is ahead of
    the other in a pair of states. So it is enough to go on once from each pair.
    """
    require_maker(one)
    require_maker(other)
    closing, mates = one.closing(), other.closing()
    pair = (one.start(), other.start())
    if closing[pair[0]] != mates[pair[1]]:
        return ""
    seen, queue, turn = {pair: True}, [("", pair, "", "")], 0
    while turn < len(queue):
        word, pair, ahead, behind = queue[turn]
        for letter in ALPHABET:
            first, parts = parts_made(one, pair[0], letter)
            second, others = parts_made(other, pair[1], letter)
            made, rival = ahead + "".join(parts), behind + "".join(others)
            if made + closing[first] != rival + mates[second]:
                return word + letter
            if (first, second) not in seen:
                seen[(first, second)] = True
                queue.append((word + letter, (first, second), made[len(rival):], rival[len(made):]))
        turn += 1
    return None


def maker_behind(one, other):
    """Return a maker that writes what `other` writes of what `one` writes."""
    require_maker(one)
    require_maker(other)
    steps = pair_steps(one, maker_states(other))
    pairs = pairs_reached(steps, one.start(), other.start())
    letters, signs = letters_of_both(one, other)
    rows = [[entry_behind(one, other, pair, sign) for sign in signs] for pair in pairs]
    closing = [closing_behind(one, other, pair) for pair in pairs]
    lengths = [letters_of_parts(parts) for row in rows for parts, _ in row]
    longest = max(lengths + [letters_of_parts(parts) for parts in closing])
    if longest > LONGEST_PIECE:
        raise TooLong(longest)
    numbers = numbers_of_rows(steps, pairs, signs)
    rows = [[(state, "".join(parts), itself) for state, (parts, itself) in zip(states, row)]
            for states, row in zip(numbers, rows)]
    return Maker(letters, rows, closing=["".join(parts) for parts in closing])


def asked_behind(maker, automaton):
    """Return an automaton that accepts a word just if `automaton` accepts what a maker writes of it."""
    require_maker(maker)
    require_automaton(automaton)
    steps = pair_steps(maker, automaton)
    pairs = pairs_reached(steps, maker.start(), automaton.start())
    letters, signs = letters_of_both(maker, automaton)
    closing, ends = maker.closing(), automaton.ends()
    last = [at for at, (first, second) in enumerate(pairs) if moved(automaton, closing[first])[second] in ends]
    return Automaton(letters, numbers_of_rows(steps, pairs, signs), ends=last)


def pair_steps(maker, automaton):
    """Return, for each state of a maker and each letter from a to z, where the letter leads.

    This is told by a tuple: the state of the maker, and a list with, for each state of the
    automaton, the one to which what is written leads.
    """
    steps, lines = [], automaton.rows()
    columns, mates = columns_of(maker, ALPHABET), columns_of(automaton, ALPHABET)
    for row in maker.rows():
        led = [moved(automaton, word) for _, word, _ in row]
        steps.append([(row[column][0], [lines[state][mate] for state in led[column]] if row[column][2] else led[column])
                      for column, mate in zip(columns, mates)])
    return steps


def pair_behind(steps, pair, at):
    """Return the pair of states to which the letter with a number leads from a pair."""
    state, led = steps[pair[0]][at]
    return (state, led[pair[1]])


def pairs_reached(steps, first, second):
    """Return the pairs of states to which words lead, in the order of the first words that do."""
    pairs = list(first_words((first, second), lambda pair, at: pair_behind(steps, pair, at)))
    if len(pairs) > MOST_STATES:
        raise TooMany(len(pairs))
    return pairs


def numbers_of_rows(steps, pairs, signs):
    """Return, for each pair and each of some letters, the number of the pair to which the letter leads."""
    numbers = {pair: number for number, pair in enumerate(pairs)}
    return [[numbers[pair_behind(steps, pair, ALPHABET.index(sign))] for sign in signs] for pair in pairs]


def letters_of_both(one, other):
    """Return the letters of two machines, and the same with one more that stands in neither, if there is one."""
    letters = "".join(sorted(set(one.letters() + other.letters())))
    rest = [letter for letter in ALPHABET if letter not in letters] + ["z"]
    return letters, letters + rest[0]


def entry_for(maker, state, letter):
    """Return the entry of a maker for a letter."""
    return maker.rows()[state][columns_of(maker, letter)[0]]


def entry_behind(one, other, pair, letter):
    """Return what is written, in parts, where one maker stands behind another, and whether the letter follows."""
    _, word, itself = entry_for(one, pair[0], letter)
    state, parts = parts_made(other, pair[1], word)
    if not itself:
        return parts, False
    _, word, itself = entry_for(other, state, letter)
    return parts + [word], itself


def closing_behind(one, other, pair):
    """Return what is written at the end, in parts, where one maker stands behind another."""
    state, parts = parts_made(other, pair[1], one.closing()[pair[0]])
    return parts + [other.closing()[state]]
