"""How the body of a part is read in a class of its grid, and what pieces its statements give there.

What is read of a row is a tuple (pieces, letters): the normal pieces of its text, in a tuple, and
their measure.
"""

from openloops.amounts import amount_form
from openloops.errors import OpenInOpen
from openloops.forms import is_plain, plain_form
from openloops.pieces import measure, normal_pieces, require_measure
from openloops.rows import TESTS, outcome

MOST_KEPT = 2000


class Reader:
    """Reads rows of the parts of a program, where forms for `many` unknowns stand for their unknowns.

    In most classes most rows give the same pieces, so what has been made normal is kept.
    """

    def __init__(self, parts, many):
        self._parts = parts
        self._many = many
        self._kept = {}

    def read(self, row, place, forms):
        """Return what is read of a row; `place` is the name of the part and the path of the row."""
        name, path = place
        given = [self._given(statement, (name, path + (at,)), forms) for at, statement in enumerate(row)]
        # Written out it might be far too long, so it is measured first.
        require_measure(sum([letters * times for (_, letters), times in given]))
        pieces = [piece for (told, _), times in given for piece in told * times]
        return self._normal(tuple(pieces))

    def _given(self, statement, place, forms):
        """Return what a statement gives, as what is read of a row, and how often it gives this."""
        kind = statement[0]
        if kind == "write":
            return self._piece(statement[1], plain_form(self._many, 1)), 1
        if kind == "times":
            return self._given_by_loop(statement, place, forms)
        if kind in TESTS:
            branch = outcome(statement, self._form(statement[1], forms)[0])
            return self.read(statement[-2 + branch], (place[0], place[1] + (branch,)), forms), 1
        values = [self._form(amount, forms) for amount in statement[2]]
        return self.read(self._parts[statement[1]][1], (statement[1], ()), values), 1

    def _given_by_loop(self, statement, place, forms):
        """Return what a loop gives, and how often."""
        form = self._form(statement[1], forms)
        if not any(form):
            return ((), 0), 1
        told = self.read(statement[2], (place[0], place[1] + (0,)), forms)
        pieces = told[0]
        if pieces == ():
            return told, 1
        if is_plain(form):
            return told, form[0]
        if not all([is_plain(inner) for _, inner in pieces]):
            raise OpenInOpen(place)
        return self._piece(pieces[0][0], form), 1

    def _form(self, amount, forms):
        """Return the form that an amount is here."""
        return amount_form(amount, self._many, forms)

    def _piece(self, word, form):
        """Return what is given by one piece alone."""
        return ((word, form),), measure([(word, form)])

    def _normal(self, pieces):
        """Return what is read where these pieces have been put together."""
        if pieces not in self._kept:
            if len(self._kept) >= MOST_KEPT:
                self._kept = {}
            found = normal_pieces(self._many, list(pieces))
            self._kept[pieces] = (tuple(found), measure(found))
        return self._kept[pieces]
