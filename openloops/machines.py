"""What parts two automata, and the least automaton that accepts the same words."""

from openloops.automata import Automaton, columns_of, require_automaton
from openloops.basics import ALPHABET


def parting_word(one, other):
    """Return the first of the shortest words that just one of two automata accepts, None if there is none."""
    require_automaton(one)
    require_automaton(other)
    rows, rivals = rows_for_all_letters(one), rows_for_all_letters(other)
    ends, lasts = one.ends(), other.ends()
    words = first_words((one.start(), other.start()),
                        lambda pair, at: (rows[pair[0]][at], rivals[pair[1]][at]))
    for pair, word in words.items():
        if (pair[0] in ends) != (pair[1] in lasts):
            return word
    return None


def least_automaton(automaton):
    """Return the automaton with the fewest states that accepts the same words."""
    require_automaton(automaton)
    rows = rows_for_all_letters(automaton)
    kinds = kinds_of(rows, automaton.ends())
    # One state of each kind, to tell where the letters lead from this kind.
    states = {kind: state for state, kind in enumerate(kinds)}
    words = first_words(kinds[automaton.start()], lambda kind, at: kinds[rows[states[kind]][at]])
    numbers = {kind: number for number, kind in enumerate(words)}
    led = [[numbers[kinds[state]] for state in rows[states[kind]]] for kind in words]
    places = [at for at in range(len(ALPHABET)) if any([row[at] != row[-1] for row in led])]
    ends = [numbers[kind] for kind in words if states[kind] in automaton.ends()]
    return Automaton("".join([ALPHABET[at] for at in places]),
                     [[row[at] for at in places] + [row[-1]] for row in led], ends=ends)


def rows_for_all_letters(automaton):
    """Return, for each state, the states to which the letters from a to z lead."""
    columns = columns_of(automaton, ALPHABET)
    return [[row[column] for column in columns] for row in automaton.rows()]


def first_words(start, follow):
    """Return, for each state that words lead to, the first of the shortest words that lead to it.

    `follow` tells to which state a letter, given by its number, leads from a state. The states
    stand in the order of their words.
    """
    words, queue, turn = {start: ""}, [start], 0
    while turn < len(queue):
        state = queue[turn]
        for at, letter in enumerate(ALPHABET):
            reached = follow(state, at)
            if reached not in words:
                words[reached] = words[state] + letter
                queue.append(reached)
        turn += 1
    return words


def kinds_of(rows, ends):
    """Return a number for each state: the same one for two behind which the same words are accepted."""
    kinds, before = [1 if state in ends else 0 for state in range(len(rows))], 0
    while len(set(kinds)) != before:
        before = len(set(kinds))
        signs = [(kind,) + tuple([kinds[state] for state in row]) for kind, row in zip(kinds, rows)]
        numbers = {}
        for sign in signs:
            numbers.setdefault(sign, len(numbers))
        kinds = [numbers[sign] for sign in signs]
    return kinds
