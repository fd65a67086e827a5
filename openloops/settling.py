"""Steps that bring what stands in one class of a grid to the statements of its normal pieces.

All steps are taken behind tests through which just the points of the class come. There each test has
one outcome, and each amount is the value of one form at the place of the point.
"""

from openloops.amounts import amount_form, form_led
from openloops.forms import form_times, is_plain, plain_form, sum_of_forms
from openloops.rows import TESTS, outcome
from openloops.words import common_end, root_of
from openloops.writing import amount_of_form, row_of_word


class Settler:
    """Takes steps in one class of a grid and keeps them.

    A row that is worked on is a list of its own; what stands within its statements is never
    changed but replaced, since the steps that have been taken hold it too.
    """

    def __init__(self, parts, limits, point):
        self._parts = parts
        self._limits = limits
        self._point = point
        self._many = len(limits)
        self._steps = []

    def steps(self):
        """Return the steps that have been taken."""
        return list(self._steps)

    def settle(self, path, row):
        """Bring a row at a path to the statements of its normal pieces, and return these pieces.

        From the front on more and more of the row is settled: `done` has the pieces for the
        statements ahead of the one with the number `at`.
        """
        done, at = [], 0
        while at < len(row):
            kind = row[at][0]
            if kind == "write":
                at = self._take_writes(path, row, done, at)
            elif kind == "times":
                at = self._take_loop(path, row, done, at)
            elif kind == "call":
                self._swap("call", path, row, at, 1, self._called(row[at]))
            else:
                branch = outcome(row[at], self._form(row[at][1])[0])
                self._swap("held", path, row, at, 1, row[at][-2 + branch])
        return done

    def _take_writes(self, path, row, done, at):
        """Settle the statements that write words, from a number on, with the fixed piece ahead of them."""
        end, start = at, at
        while end < len(row) and row[end][0] == "write":
            end += 1
        word = "".join([part for _, part in row[at:end]])
        if done != [] and is_plain(done[-1][1]):
            fixed = done.pop()[0]
            word, start = fixed + word, at - len(row_of_word(fixed))
        self._swap("spell", path, row, start, end - start, row_of_word(word))
        done.append((word, self._constant(1)))
        return start + len(row_of_word(word))

    def _take_loop(self, path, row, done, at):
        """Settle a loop, or at least bring it to statements that can be settled."""
        _, amount, body = row[at]
        form = self._form(amount)
        if not any(form):
            self._swap("unroll", path, row, at, 1, [])
            return at
        inner = list(body)
        pieces = self.settle(path + (at, 0), inner)
        row[at] = ("times", amount, inner)
        if pieces == []:
            self._drop_loop(path, row, at)
        elif is_plain(form):
            self._swap("unroll", path, row, at, 1, inner * form[0])
        else:
            form, root = self._root_loop(path, row, at, pieces[0][0], form)
            return self._take_power(path, row, done, at, root, form)
        return at

    def _drop_loop(self, path, row, at):
        """Bring a loop with an empty body to one that never runs: one that never runs can as well stand in it."""
        never = ("times", (self._constant(0), 0, 1), [])
        self._swap_in_loop("unroll", path, row, at, [never])
        self._swap("nest", path, row, at, 1, [never])

    def _root_loop(self, path, row, at, word, form):
        """Bring a loop to the shortest word of which its word is made; return its form then, and this word."""
        root = root_of(word)
        turns = len(word) // len(root)
        if turns > 1:
            form = form_times(form, turns)
            self._swap_in_loop("spell", path, row, at, row_of_word(root) * turns)
            self._swap_in_loop("unroll", path, row, at, [self._turns(turns, root)])
            self._swap("nest", path, row, at, 1, [self._loop(form, root)])
        return form, root

    def _take_power(self, path, row, done, at, root, form):
        """Settle a loop of a word: what is fixed ahead of it passes it as far as it can, as does its constant.

        What has passed it is left to be settled behind it.
        """
        fixed = done.pop()[0] if done != [] and is_plain(done[-1][1]) else ""
        passing = common_end(fixed, root)
        staying, full, rest = fixed[:len(fixed) - passing], passing // len(root), passing % len(root)
        body, tail = row_of_word(root), row_of_word(root[len(root) - rest:])
        start = at - len(row_of_word(fixed))
        self._swap("spell", path, row, start, at - start, row_of_word(staying) + tail + body * full)
        at = start + len(row_of_word(staying)) + len(tail)
        if full > 0:
            self._swap("unroll", path, row, at, len(body) * full, [self._turns(full, root)])
        power, left = (0,) + form[1:], full + form[0]
        new = [self._loop(power, root)] + ([self._turns(left, root)] if left > 0 else [])
        self._swap("sum", path, row, at, 1 if full == 0 else 2, new)
        if rest > 0:
            at = at - len(tail)
            root = self._turn_loop(path, row, at, root, rest)
        if staying != "":
            done.append((staying, self._constant(1)))
        return self._join_powers(path, row, done, at, root, power)

    def _turn_loop(self, path, row, at, root, rest):
        """Let the last letters of the word of a loop, which stand ahead of it, pass it; return its word then."""
        front, tail = row_of_word(root[:len(root) - rest]), row_of_word(root[len(root) - rest:])
        behind = at + len(tail)
        self._swap_in_loop("spell", path, row, behind, front + tail)
        self._swap("turn", path, row, at, len(tail) + 1, [("times", row[behind][1], tail + front)] + tail)
        word = root[len(root) - rest:] + root[:len(root) - rest]
        self._swap_in_loop("spell", path, row, at, row_of_word(word))
        return word

    def _join_powers(self, path, row, done, at, root, power):
        """Make one loop of two with the same word, and return the number of the statement behind it."""
        if done != [] and done[-1][0] == root and not is_plain(done[-1][1]):
            power = sum_of_forms(self._many, [done.pop()[1], power])
            at = at - 1
            self._swap("sum", path, row, at, 2, [self._loop(power, root)])
        done.append((root, power))
        return at + 1

    def _called(self, statement):
        """Return the body that a call calls, with its amounts as they are behind those of the call."""
        forms = [self._form(amount) for amount in statement[2]]
        return self._led_row(self._parts[statement[1]][1], forms)

    def _led_row(self, row, forms):
        """Return a row with each amount as it is where forms stand for the unknowns."""
        return [self._led_statement(statement, forms) for statement in row]

    def _led_statement(self, statement, forms):
        """Return a statement with each amount as it is where forms stand for the unknowns."""
        kind = statement[0]
        if kind == "write":
            return statement
        if kind == "call":
            return (kind, statement[1], [self._led_amount(amount, forms) for amount in statement[2]])
        amount = self._led_amount(statement[1], forms)
        if kind in TESTS:
            rows = [self._led_row(row, forms) for row in statement[-2:]]
            return (kind, amount) + statement[2:-2] + tuple(rows)
        return (kind, amount, self._led_row(statement[2], forms))

    def _led_amount(self, amount, forms):
        """Return an amount as it is where forms stand for the unknowns."""
        return self._amount(amount_form(amount, self._many, forms))

    def _form(self, amount):
        """Return the form whose value at the place of each point is that of an amount."""
        return form_led(amount, self._limits, self._point)

    def _amount(self, form):
        """Return the amount whose value at each point is that of a form at its place."""
        return amount_of_form(form, self._limits, self._point)

    def _constant(self, number):
        """Return the form with this constant in which no unknown stands."""
        return plain_form(self._many, number)

    def _loop(self, form, word):
        """Return the loop that writes a word as often as a form says."""
        return ("times", self._amount(form), row_of_word(word))

    def _turns(self, times, word):
        """Return the loop that writes a word so many times."""
        return ("times", (self._constant(times), 0, 1), row_of_word(word))

    def _swap(self, rule, path, row, start, length, new):
        """Take a step in a row that stands at a path, unless it changes nothing."""
        old = row[start:start + length]
        if old != new:
            self._steps.append((rule, path, start, old, new))
            row[start:start + length] = new

    def _swap_in_loop(self, rule, path, row, at, new):
        """Take a step that changes the whole body of a loop that stands in a row at a path."""
        inner = list(row[at][2])
        self._swap(rule, path + (at, 0), inner, 0, len(inner), new)
        row[at] = ("times", row[at][1], inner)
