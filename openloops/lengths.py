"""At which points tables write certain numbers of letters."""

from openloops.basics import is_letter
from openloops.errors import InvalidSet, InvalidWord
from openloops.gathering import gathered_points, told_of_texts
from openloops.pointsets import require_set
from openloops.pointviews import led_points
from openloops.tables import require_table
from openloops.texts import length, letters


def length_points(table, points):
    """Return the set of the points at which a table writes a number of letters that is a point of a set."""
    require_table(table)
    require_numbers(points)
    many = table.many()
    return gathered_points(table.grid(), told_of_texts(table, lambda text: led_points(points, many, [length(text)])))


def letter_points(table, letter, points):
    """Return the set of the points at which a table writes a letter as often as a point of a set says."""
    require_table(table)
    if not is_letter(letter):
        raise InvalidWord(letter)
    require_numbers(points)
    many = table.many()
    return gathered_points(table.grid(),
                           told_of_texts(table, lambda text: led_points(points, many, [letters(text, letter)])))


def require_numbers(points):
    """Raise an error unless an argument is a set of points for one unknown."""
    require_set(points)
    if points.many() != 1:
        raise InvalidSet(points)
