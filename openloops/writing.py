"""Rows of statements that write words, and what open texts write in a class of a grid."""

from math import lcm

from openloops.forms import form_of_unknown, is_plain
from openloops.rows import LONGEST_WRITE


def row_of_word(word):
    """Return the statements that write a word, as long as they may be."""
    return [("write", word[at:at + LONGEST_WRITE]) for at in range(0, len(word), LONGEST_WRITE)]


def weight_of_word(word):
    """Return how many statements write a word."""
    return -(-len(word) // LONGEST_WRITE)


def row_of_text(text, limits, point):
    """Return the statements that write a text, for the places of a class, with one loop for each unknown of a power."""
    row = []
    for word, form in text.pieces():
        if is_plain(form):
            row.extend(row_of_word(word))
        for at, number in enumerate(form[1:]):
            if number > 0:
                amount = (form_of_unknown(len(point), at, 0, number), number * point[at], limits[at][1])
                row.append(("times", amount, row_of_word(word)))
    return row


def weight_of_row_of_text(text):
    """Return the weight of the statements that write a text."""
    weight = 0
    for word, form in text.pieces():
        loops = len([number for number in form[1:] if number > 0])
        weight += weight_of_word(word) if loops == 0 else loops * (1 + weight_of_word(word))
    return weight


def amount_of_form(form, limits, point):
    """Return the amount that has, at each point of a class, the value of a form at the point's place."""
    by = 1
    for number, limit in zip(form[1:], limits):
        if number > 0:
            by = lcm(by, limit[1])
    numbers = [number * (by // limit[1]) if number > 0 else 0 for number, limit in zip(form[1:], limits)]
    less = sum([number * count for number, count in zip(numbers, point)])
    return (tuple([form[0] * by] + numbers), less, by)
