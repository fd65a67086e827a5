"""Open texts with one count that is greater or smaller."""

from openloops.basics import is_count, is_count_below, is_whole
from openloops.errors import InvalidNumber
from openloops.forms import form_of_unknown, is_plain, plain_form
from openloops.pieces import normal_pieces
from openloops.texts import OpenText, require_text, text_with
from openloops.words import same_stretch, stretch, turned


def later(text, at, by):
    """Return the open text that writes what a text writes where one count is greater by `by`."""
    require_text_unknown(text, at)
    if not is_count(by):
        raise InvalidNumber(by)
    many = text.many()
    forms = [form_of_unknown(many, place, by if place == at else 0, 1) for place in range(many)]
    return text_with(text, many, forms)


def earlier(text, at):
    """Return the open text that is a given one where one count is greater by 1, None if there is none."""
    require_text_unknown(text, at)
    pieces = earlier_pieces(text.many(), text.pieces(), at)
    return None if pieces is None else OpenText(text.many(), pieces)


def thinned(text, at, by):
    """Return the open text that writes where one count is `by` times as great what a text writes."""
    require_text_unknown(text, at)
    if not is_whole(by) or by < 1:
        raise InvalidNumber(by)
    pieces = thin_pieces(text.pieces(), at, by)
    return None if pieces is None else OpenText(text.many(), pieces)


def require_text_unknown(text, at):
    """Raise an error unless the arguments are an open text and the number of one of its unknowns."""
    require_text(text)
    if not is_count_below(text.many(), at):
        raise InvalidNumber(at)


def earlier_pieces(many, pieces, at):
    """Return the normal pieces that are given ones where one count is greater by 1, None if there are none.

    Each power that is given has its word in it a few times too often, and these are to be
    taken away behind the power, from what is fixed there. Where that is used up and still
    something has to be taken away, the next power has to begin with it: it gives the letters
    from its front, is turned by them, and so has all the more to be taken away behind it.
    """
    if not stands_in(pieces, at):
        return pieces
    fixed_form = plain_form(many, 1)
    front, rows = front_and_powers(pieces)
    found, missing = [(front, fixed_form)], 0
    for place, (word, form, fixed) in enumerate(rows):
        found.append((turned(word, -missing), form))
        surplus = len(word) * form[at + 1] + missing
        taken = min(surplus, len(fixed))
        if not fixed.startswith(stretch(word, 0, taken)):
            return None
        found.append((fixed[taken:], fixed_form))
        missing = surplus - taken
        if missing > 0 and not next_begins_with(rows, place, taken, missing):
            return None
    return normal_pieces(many, found)


def thin_pieces(pieces, at, by):
    """Return the pieces that write where one count is `by` times as great what pieces write, None if there are none."""
    if any([form[at + 1] % by for _, form in pieces]):
        return None
    return [(word, form[:at + 1] + (form[at + 1] // by,) + form[at + 2:]) for word, form in pieces]


def stands_in(pieces, at):
    """Tell whether an unknown stands in a form of pieces."""
    return any([form[at + 1] for _, form in pieces])


def front_and_powers(pieces):
    """Return the fixed word at the front and, for each power, (word, form, the fixed word behind it)."""
    front, rows = "", []
    for word, form in pieces:
        if not is_plain(form):
            rows.append((word, form, ""))
        elif rows == []:
            front = word
        else:
            rows[-1] = rows[-1][:2] + (word,)
    return front, rows


def next_begins_with(rows, place, start, letters):
    """Tell whether the power behind a power begins with so many letters of it, from `start` on."""
    if place + 1 == len(rows):
        return False
    return same_stretch(rows[place][0], start, rows[place + 1][0], 0, letters)
