"""The grid of a table: the least periods and thresholds with which one text for each class is enough.

Here a table is given by the limits of a grid and by `rows`, a dict with the normal pieces for each
class, which is a tuple of counts.
"""

from openloops.forms import form_of_unknown
from openloops.grids import Grid
from openloops.pieces import MOST_MEASURE, measure, normal_pieces, require_measure
from openloops.shifts import earlier_pieces, stands_in, thin_pieces
from openloops.texts import pieces_with


def even_grid(limits):
    """Return the grid with the same periods and with the greatest threshold for each unknown."""
    threshold = max([limit[0] for limit in limits], default=0)
    return Grid([(threshold, period) for _, period in limits])


def led_pieces(pieces, many, forms):
    """Return the normal pieces with forms for as many unknowns in place of the unknowns, within the measure."""
    led = pieces_with(pieces, many, forms)
    require_measure(measure(led))
    return led if led == pieces else normal_pieces(many, led)


def least_table(limits, rows):
    """Return the limits of the grid of a table, and its rows there, for its rows on an even grid."""
    many = len(limits)
    for at in range(many):
        limits, rows = with_least_period(limits, rows, at)
    lower = lowered_everywhere(limits, rows)
    while lower is not None:
        limits, rows = lower
        lower = lowered_everywhere(limits, rows)
    for at in range(many):
        lower = lowered(limits, rows, at)
        while lower is not None:
            limits, rows = lower
            lower = lowered(limits, rows, at)
    return limits, rows


def with_least_period(limits, rows, at):
    """Return limits with the least period that serves for one unknown, and the rows for them."""
    for prime in prime_factors(limits[at][1]):
        thinner = thinned_out(limits, rows, at, prime)
        while thinner is not None:
            limits, rows = thinner
            thinner = thinned_out(limits, rows, at, prime)
    return limits, rows


def prime_factors(number):
    """Return the prime numbers that divide a number."""
    primes = []
    for prime in range(2, number + 1):
        if number % prime == 0 and all([prime % smaller for smaller in primes]):
            primes.append(prime)
    return primes


def thinned_out(limits, rows, at, by):
    """Return limits with a period that is `by` times as small, and the rows; None if they do not serve."""
    threshold, period = limits[at]
    if period % by > 0:
        return None
    short, found = period // by, {}
    for row, pieces in rows.items():
        if row[at] < threshold:
            found[row] = pieces
        elif row[at] < threshold + short:
            thin = thin_pieces(pieces, at, by)
            if thin is None:
                return None
            for turn in range(1, by):
                if not same_moved(thin, rows[with_count(row, at, row[at] + turn * short)], at, turn, by):
                    return None
            found[row] = thin
    return limits[:at] + [(threshold, short)] + limits[at + 1:], found


def lowered_everywhere(limits, rows):
    """Return limits with thresholds that are all lower by 1, and the rows; None if they do not serve."""
    if limits == []:
        return None
    for at in range(len(limits)):
        lower = lowered(limits, rows, at)
        if lower is None:
            return None
        limits, rows = lower
    return limits, rows


def lowered(limits, rows, at):
    """Return limits with a threshold that is lower by 1, and the rows; None if they do not serve."""
    threshold, period = limits[at]
    if threshold == 0:
        return None
    low, found = threshold - 1, {}
    for row, pieces in rows.items():
        if row[at] == low:
            early = earlier_pieces(len(limits), rows[with_count(row, at, low + period)], at)
            if early is None or not same_moved(early, pieces, at, 0, 0):
                return None
            found[row] = early
        elif row[at] != low + period:
            found[row] = pieces
    return limits[:at] + [(low, period)] + limits[at + 1:], found


def with_count(row, at, count):
    """Return a class with another count for one unknown."""
    return row[:at] + (count,) + row[at + 1:]


def same_moved(pieces, mate, at, start, step):
    """Tell whether normal pieces become others when `start` and `step` times an unknown stands for the unknown.

    What goes beyond the greatest measure is equal to no pieces here: moving normal pieces on
    keeps their measure when they become normal again.
    """
    if not stands_in(pieces, at):
        return pieces == mate
    many = len(pieces[0][1]) - 1
    forms = [form_of_unknown(many, place, start if place == at else 0, step if place == at else 1)
             for place in range(many)]
    moved = pieces_with(pieces, many, forms)
    return measure(moved) <= MOST_MEASURE and normal_pieces(many, moved) == mate
