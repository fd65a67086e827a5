"""Lines of texts: their words, and what the words of a line of a program tell.

What a line tells is a tuple that begins with its kind. Amounts in it are what is read of an amount.
"""

from openloops.basics import MOST_UNKNOWNS, is_count_below, is_string_of_letters
from openloops.formtexts import read_amount, read_number
from openloops.programs import is_name
from openloops.rows import LONGEST_WRITE


def lines_of_text(text):
    """Return the lines of a text; what stands behind the last line end is one if it is not empty."""
    lines = text.split("\n")
    return lines if lines[-1] != "" else lines[:-1]


def words_of_line(line):
    """Return the words of a line: only the blank parts them."""
    return [word for word in line.partition("#")[0].split(" ") if word != ""]


def told_by_part(words):
    """Return what a line `part` tells, None if it is none."""
    if len(words) != 3 or not is_name(words[1]) or not is_count_below(MOST_UNKNOWNS + 1, read_number(words[2])):
        return None
    return ("part", words[1], read_number(words[2]))


def told_by_write(words):
    """Return what a line `write` tells, None if it is none."""
    if len(words) != 2 or not is_string_of_letters(words[1]) or len(words[1]) > LONGEST_WRITE:
        return None
    return ("write", words[1])


def told_by_times(words):
    """Return what a line `times` tells, None if it is none."""
    if len(words) != 2 or read_amount(words[1]) is None:
        return None
    return ("times", read_amount(words[1]))


def told_by_when(words):
    """Return what a line `when` tells, None if it is none."""
    if len(words) < 4 or read_amount(words[1]) is None:
        return None
    number = read_number(words[3])
    if number is None:
        return None
    if words[2] == "below" and len(words) == 4:
        return ("below", read_amount(words[1]), number)
    if words[2] == "leaves" and len(words) == 6 and words[4] == "by":
        by = read_number(words[5])
        return ("leaves", read_amount(words[1]), number, by) if by is not None and number < by else None
    return None


def told_by_call(words):
    """Return what a line `call` tells, None if it is none."""
    if len(words) < 2 or not is_name(words[1]):
        return None
    amounts = [read_amount(word) for word in words[2:]]
    return ("call", words[1], amounts) if None not in amounts else None


def told_by_sign(words):
    """Return what a line `else` or `end` tells, None if it is none."""
    return (words[0],) if len(words) == 1 else None


READERS = {"part": told_by_part, "write": told_by_write, "times": told_by_times, "when": told_by_when,
           "call": told_by_call, "else": told_by_sign, "end": told_by_sign}


def told_by_line(words):
    """Return what the words of a line, at least one, tell; None if they tell nothing."""
    if words[0] not in READERS:
        return None
    reader = READERS[words[0]]
    return reader(words)


def amounts_told(told):
    """Return the amounts, as they are read, that what a line tells has."""
    if told[0] == "call":
        return list(told[2])
    return [told[1]] if told[0] in ("times", "below", "leaves") else []
