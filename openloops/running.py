"""Running: what the parts of programs write at points.

What is run at a point is laid out first, as a list of *stretches*: tuples (letters, times, content),
where content is a word or a list of stretches that is written several times, and letters is how
many letters this makes in all. A stretch has at least one letter.
"""

from openloops.amounts import value_at
from openloops.basics import LONGEST_WORD, is_count_below, is_letter, is_point
from openloops.errors import InvalidNumber, InvalidPoint, InvalidWord, TooLong
from openloops.programs import part_of, table_of_parts
from openloops.rows import TESTS, outcome


def run(program, name, point):
    """Return the word that a part writes at a point."""
    stretches = laid_out(program, name, point)
    letters = letters_of(stretches)
    if letters > LONGEST_WORD:
        raise TooLong(letters)
    return whole_word(stretches)


def run_length(program, name, point):
    """Return how many letters a part writes at a point."""
    return letters_of(laid_out(program, name, point))


def run_letters(program, name, point, letter):
    """Return how many of the letters that a part writes at a point are this letter."""
    stretches = laid_out(program, name, point)
    if not is_letter(letter):
        raise InvalidWord(letter)
    return how_many_are(stretches, letter)


def run_letter(program, name, point, at):
    """Return the letter with the number `at` of what a part writes at a point."""
    stretches = laid_out(program, name, point)
    if not is_count_below(letters_of(stretches), at):
        raise InvalidNumber(at)
    return word_between(stretches, at, at + 1)


def run_part(program, name, point, low, high):
    """Return the letters from the number `low` to ahead of the number `high` of what a part writes."""
    stretches = laid_out(program, name, point)
    letters = letters_of(stretches)
    if not is_count_below(letters + 1, low):
        raise InvalidNumber(low)
    if not is_count_below(letters + 1, high) or high < low:
        raise InvalidNumber(high)
    if high - low > LONGEST_WORD:
        raise TooLong(high - low)
    return word_between(stretches, low, high)


def laid_out(program, name, point):
    """Return the stretches that a part writes at a point."""
    many, body = part_of(program, name)
    if not is_point(many, point):
        raise InvalidPoint(point)
    return stretches_of(table_of_parts(program), body, point)


def stretches_of(parts, row, point):
    """Return the stretches that a row writes at a point."""
    found = []
    for statement in row:
        kind = statement[0]
        if kind == "write":
            found.append((len(statement[1]), 1, statement[1]))
        elif kind == "times":
            add_times(found, value_at(statement[1], point), parts, statement[2], point)
        elif kind in TESTS:
            chosen = outcome(statement, value_at(statement[1], point))
            found.extend(stretches_of(parts, statement[-2 + chosen], point))
        else:
            inner = [value_at(amount, point) for amount in statement[2]]
            found.extend(stretches_of(parts, parts[statement[1]][1], inner))
    return found


def add_times(found, times, parts, row, point):
    """Put what a row writes several times behind stretches, unless it is nothing."""
    inner = stretches_of(parts, row, point) if times > 0 else []
    if inner != []:
        found.append((letters_of(inner) * times, times, inner))


def letters_of(stretches):
    """Return how many letters stretches have."""
    return sum([letters for letters, _, _ in stretches])


def how_many_are(stretches, letter):
    """Return how many letters of stretches are this letter."""
    total = 0
    for _, times, content in stretches:
        if isinstance(content, str):
            total += times * content.count(letter)
        else:
            total += times * how_many_are(content, letter)
    return total


def whole_word(stretches):
    """Return what stretches write; it is known not to be long."""
    words = []
    for _, times, content in stretches:
        words.append((content if isinstance(content, str) else whole_word(content)) * times)
    return "".join(words)


def word_between(stretches, low, high):
    """Return the letters between two numbers of what stretches write; they are known not to be many."""
    words = []
    for letters, times, content in stretches:
        first, last = max(low, 0), min(high, letters)
        if first < last:
            words.append(word_of_turns(content, letters // times, first, last))
        low, high = low - letters, high - letters
    return "".join(words)


def word_of_turns(content, letters, low, high):
    """Return the letters between two numbers of a content of so many letters, taken without end.

    Where several turns of the content are whole, it is put together once.
    """
    first, last = low // letters, (high - 1) // letters
    if first == last:
        return word_within(content, low - first * letters, high - first * letters)
    middle = word_within(content, 0, letters) * (last - first - 1) if last - first > 1 else ""
    front = word_within(content, low - first * letters, letters)
    return front + middle + word_within(content, 0, high - last * letters)


def word_within(content, low, high):
    """Return the letters between two numbers of a content."""
    return content[low:high] if isinstance(content, str) else word_between(content, low, high)
