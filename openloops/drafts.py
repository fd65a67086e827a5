"""Drafts: programs as they are told line by line."""

from openloops.formtexts import form_for
from openloops.programs import MOST_DEPTH, MOST_PARTS, MOST_WEIGHT
from openloops.textlines import amounts_told, told_by_line


class Draft:
    """The program that lines tell so far; lines that no text goes on with are not taken.

    What is open is a list of tuples (row, other): the row to which the next statement belongs, and the
    one to which those behind `else` will belong, or None where no `else` may come.
    """

    def __init__(self):
        self._parts = []
        self._names = {}
        self._ended = {}
        self._now_open = []
        self._weight = 0
        self._depth = 0

    def parts(self):
        """Return the parts that have been told, those that are open too."""
        return list(self._parts)

    def lines_missing(self):
        """Return how many lines `end` are missing."""
        return len(self._now_open)

    def take(self, words):
        """Take the words of a line, at least one, and return None, or return the reason why it is left out."""
        told = told_by_line(words)
        if told is None:
            return "words"
        reason = self._what_is_wrong(told)
        if reason is None:
            self._put(told)
        return reason

    def _what_is_wrong(self, told):
        """Return the reason why a line is left out, None if it is not."""
        kind = told[0]
        if (kind == "part") == (self._now_open != []):
            return "place"
        if kind == "else" and self._now_open[-1][1] is None:
            return "place"
        if kind == "part":
            if told[1] in self._names:
                return "name"
            return "limit" if len(self._parts) == MOST_PARTS else None
        if kind == "call" and told[1] not in self._ended:
            return "name"
        return self._what_is_wrong_in_part(told)

    def _what_is_wrong_in_part(self, told):
        """Return the reason why a line within a part, with names that are known, is left out, None if it is not."""
        if kind_ends(told):
            return None
        many = self._parts[-1][1]
        if any([named > many for _, named in amounts_told(told)]):
            return "unknown"
        wanted, weight, depth = self._told_of_call(told)
        if wanted is not None and len(told[2]) != wanted:
            return "unknown"
        if self._weight + weight > MOST_WEIGHT or len(self._now_open) + depth > MOST_DEPTH:
            return "limit"
        return None

    def _told_of_call(self, told):
        """Return the unknowns of the part that a line calls, None if it calls none, the weight and the depth below."""
        if told[0] != "call":
            return None, 1, 0
        many, weight, depth = self._ended[told[1]]
        return many, weight + 1, depth

    def _put(self, told):
        """Put what a line tells, which is right, to the program."""
        kind = told[0]
        if kind == "part":
            self._names[told[1]] = True
            self._parts.append((told[1], told[2], []))
            self._weight, self._depth = 0, 0
            self._now_open.append((self._parts[-1][2], None))
        elif kind == "else":
            self._now_open.append((self._now_open.pop()[1], None))
        elif kind == "end":
            self._now_open.pop()
            if self._now_open == []:
                name, many, _ = self._parts[-1]
                self._ended[name] = (many, self._weight, self._depth)
        else:
            self._put_statement(told)

    def _put_statement(self, told):
        """Put the statement that a line begins to the row that is open."""
        _, weight, depth = self._told_of_call(told)
        self._weight = self._weight + weight
        self._depth = max(self._depth, len(self._now_open) + depth)
        row, kind, many = self._now_open[-1][0], told[0], self._parts[-1][1]
        if kind == "write":
            row.append(told)
        elif kind == "call":
            row.append((kind, told[1], [amount_for(many, read) for read in told[2]]))
        else:
            amount, inner = amount_for(many, told[1]), []
            other = None if kind == "times" else []
            rows = (inner,) if other is None else (inner, other)
            row.append((kind, amount) + told[2:] + rows)
            self._now_open.append((inner, other))


def kind_ends(told):
    """Tell whether a line is an `else` or an `end`."""
    return told[0] in ("else", "end")


def amount_for(many, read):
    """Return the amount for as many unknowns that has been read."""
    (form, less, by), _ = read
    return (form_for(many, form), less, by)
