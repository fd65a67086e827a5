"""Tables as texts, and tables read from their texts."""

from openloops.basics import MOST_UNKNOWNS, is_count_below, is_string_of_letters
from openloops.errors import InvalidLines
from openloops.forms import is_plain, plain_form
from openloops.formtexts import form_for, form_text, read_form, read_number
from openloops.grids import Grid, how_many_classes, is_limit
from openloops.tables import CaseTable, require_table
from openloops.textlines import lines_of_text, words_of_line
from openloops.texts import OpenText


def table_text(table):
    """Return a table as a text, with a line end behind each line."""
    require_table(table)
    numbers = [number for limit in table.grid().limits() for number in limit]
    rows = [["table", str(table.many())], ["limits"] + [str(number) for number in numbers]]
    rows.extend([["case"] + [piece_text(piece) for piece in text.pieces()] for text in table.texts()])
    return "".join([" ".join(words) + "\n" for words in rows])


def read_table(text):
    """Return the table that a text tells."""
    if not isinstance(text, str):
        raise InvalidLines(text)
    rows = [words_of_line(line) for line in lines_of_text(text)]
    told = read_rows([words for words in rows if words != []])
    if told is None:
        raise InvalidLines(text)
    limits, cases = told
    grid = Grid(limits)
    return CaseTable(grid, [OpenText(len(limits), pieces) for pieces in cases])


def piece_text(piece):
    """Return a normal piece as it is written."""
    word, form = piece
    return word if is_plain(form) else f"{word}*{form_text(form)}"


def read_rows(rows):
    """Return the limits and the lists of pieces that lines, given by their words, tell; None if they tell none."""
    if len(rows) < 2 or len(rows[0]) != 2 or rows[0][0] != "table":
        return None
    many = read_number(rows[0][1])
    if not is_count_below(MOST_UNKNOWNS + 1, many):
        return None
    limits = read_limits(many, rows[1])
    if limits is None or how_many_classes(limits) != len(rows) - 2:
        return None
    cases = [read_case(many, words) for words in rows[2:]]
    return (limits, cases) if None not in cases else None


def read_limits(many, words):
    """Return the limits for as many unknowns that a line tells, None if it tells none."""
    numbers = [read_number(word) for word in words[1:]]
    if words[0] != "limits" or len(numbers) != 2 * many:
        return None
    limits = [(numbers[2 * at], numbers[2 * at + 1]) for at in range(many)]
    return limits if all([is_limit(limit) for limit in limits]) else None


def read_case(many, words):
    """Return the pieces that a line tells, None if it tells none."""
    pieces = [read_piece(many, word) for word in words[1:]]
    return pieces if words[0] == "case" and None not in pieces else None


def read_piece(many, text):
    """Return the piece for as many unknowns that a word of a line tells, None if it tells none."""
    word, sign, behind = text.partition("*")
    if word == "" or not is_string_of_letters(word):
        return None
    if sign == "":
        return (word, plain_form(many, 1))
    told = read_form(behind)
    if told is None or told[1] > many:
        return None
    return (word, form_for(many, told[0]))
