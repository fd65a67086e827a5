"""Amounts: forms less a number, divided by a number and rounded down.

A *want* is a tuple (amount, limit): the limits of a grid are wanted for which, in each of its classes,
the values of the amount lie in one class of the limit, which is a tuple (threshold, period).
"""

from openloops.basics import is_count, is_whole
from openloops.forms import form_value, form_with, has_form, is_plain, plain_form
from openloops.pointviews import led_limit

EVERY_COUNT = (0, 1)


def has_amount(many, item):
    """Tell whether an item is an amount for as many unknowns."""
    if not isinstance(item, tuple) or len(item) != 3:
        return False
    form, less, by = item
    return has_form(many, form) and is_count(less) and is_whole(by) and by >= 1


def value_at(amount, point):
    """Return the value of an amount at a point that fits."""
    form, less, by = amount
    return max(0, form_value(form, point) - less) // by


def needed_limits(many, wants):
    """Return the limits for as many unknowns that wants need, (0, 1) where nothing is needed."""
    forms = [form for (form, _, _), _ in wants]
    limits = [(less + by * limit[0], by * limit[1]) for (_, less, by), limit in wants]
    return [led_limit(limits, forms, at) for at in range(many)]


def amount_form(amount, many, forms):
    """Return the form that an amount is where forms for `many` unknowns stand for its unknowns.

    This holds in a class of a grid that has the limits that the amount needs.
    """
    form, less, by = amount
    return rounded(form_with(form, many, forms), less, by)


def rounded(form, less, by):
    """Return the form that a form less a number, divided by a number, is where it can be one."""
    if is_plain(form):
        return plain_form(len(form) - 1, max(0, form[0] - less) // by)
    return tuple([(form[0] - less) // by] + [number // by for number in form[1:]])


def amount_behind(amount, many, amounts):
    """Return the amount that has the value of an amount at the values of amounts for `many` unknowns.

    None is returned unless it can be told at once: there may be such an amount all the same.
    """
    form, less, by = amount
    standing = [mate for number, mate in zip(form[1:], amounts) if number > 0]
    if all([mate[1:] == (0, 1) for mate in standing]):
        return (form_with(form, many, [mate[0] for mate in amounts]), less, by)
    if sum(form) == 1 and form[0] == 0:
        inner, taken, divided = standing[0]
        return (inner, taken + divided * less, divided * by)
    return None


def amount_led(amount, limits, point):
    """Return an amount with the places of a class, given by its least point, as unknowns."""
    form, less, by = amount
    numbers = [number * limit[1] if count >= limit[0] else 0 for number, limit, count in zip(form[1:], limits, point)]
    return (tuple([form_value(form, point)] + numbers), less, by)


def form_led(amount, limits, point):
    """Return the form that an amount is at the places of a class of a grid that has the limits that it needs."""
    form, less, by = amount_led(amount, limits, point)
    return rounded(form, less, by)
