"""Pieces: words that are taken as often as forms say."""

from openloops.basics import is_string_of_letters, require_many
from openloops.errors import InvalidPiece, InvalidPieces, TooLong
from openloops.forms import form_times, has_form, is_plain, plain_form, sum_of_forms
from openloops.words import common_end, root_of, turned

LONGEST_PIECE = 2000
MOST_PIECES = 5000
MOST_MEASURE = 2000


def normal(many, pieces):
    """Return the normal list of pieces that writes the same as a list of pieces at every point."""
    require_many(many)
    if not isinstance(pieces, list) or len(pieces) > MOST_PIECES:
        raise InvalidPieces(pieces)
    for item in pieces:
        if not is_piece(many, item):
            raise InvalidPiece(item)
    require_measure(measure(pieces))
    return normal_pieces(many, pieces)


def is_normal(many, value):
    """Tell whether a value is a normal list of pieces within the limits."""
    require_many(many)
    if not isinstance(value, list) or len(value) > MOST_PIECES:
        return False
    if not all([is_piece(many, item) for item in value]) or measure(value) > MOST_MEASURE:
        return False
    return value == normal_pieces(many, value)


def is_piece(many, item):
    """Tell whether an item is a piece for as many unknowns."""
    if not isinstance(item, tuple) or len(item) != 2:
        return False
    word, form = item
    return is_string_of_letters(word) and len(word) <= LONGEST_PIECE and has_form(many, form)


def measure(pieces):
    """Return the measure of a list of pieces."""
    return sum([len(word) * (form[0] + (0 if is_plain(form) else 1)) for word, form in pieces])


def require_measure(number):
    """Raise an error if a list of pieces has too great a measure."""
    if number > MOST_MEASURE:
        raise TooLong(number)


def normal_pieces(many, pieces):
    """Return the normal list for a list of pieces, whatever its measure.

    What is fixed moves to the right as far as it can, so that one way through the pieces is
    enough: no power that has been put down is ever changed by what follows, but for its form.
    """
    done = []
    fixed = ""
    for word, form in pieces:
        if word == "" or not any(form):
            continue
        if is_plain(form):
            fixed += word * form[0]
            continue
        root = root_of(word)
        form = form_times(form, len(word) // len(root))
        passing = common_end(fixed, root)
        staying = fixed[:len(fixed) - passing]
        add_fixed(many, done, staying)
        add_power(many, done, turned(root, passing), form)
        fixed = fixed[len(staying):] + root * form[0]
    add_fixed(many, done, fixed)
    return done


def add_fixed(many, done, word):
    """Put a fixed piece behind normal pieces, unless it is empty."""
    if word != "":
        done.append((word, plain_form(many, 1)))


def add_power(many, done, word, form):
    """Put a power, without the constant of its form, behind normal pieces."""
    power = (0,) + form[1:]
    if done != [] and done[-1][0] == word and not is_plain(done[-1][1]):
        power = sum_of_forms(many, [done.pop()[1], power])
    done.append((word, power))
