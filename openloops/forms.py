"""Forms: sums of counts that are not given."""

from openloops.basics import MOST_UNKNOWNS, is_count, is_point, require_many
from openloops.errors import InvalidForm, InvalidList, InvalidPoint


def is_form(many, value):
    """Tell whether a value is a form for as many unknowns."""
    require_many(many)
    return has_form(many, value)


def value(form, point):
    """Return the value of a form at a point."""
    require_form(form)
    if not is_point(len(form) - 1, point):
        raise InvalidPoint(point)
    return form_value(form, point)


def inserted(form, many, forms):
    """Return the form that results when forms for `many` unknowns stand in place of the unknowns."""
    require_form(form)
    require_many(many)
    require_forms(forms, many, len(form) - 1)
    return form_with(form, many, forms)


def has_form(many, item):
    """Tell whether an item is a form for as many unknowns, a number that is known to be right."""
    return isinstance(item, tuple) and len(item) == many + 1 and all([is_count(number) for number in item])


def require_form(form):
    """Raise an error unless an argument is a form for 0 to 3 unknowns."""
    if not any([has_form(many, form) for many in range(MOST_UNKNOWNS + 1)]):
        raise InvalidForm(form)


def require_forms(forms, many, how_many):
    """Raise an error unless an argument is a list of so many forms for `many` unknowns."""
    if not isinstance(forms, list) or len(forms) != how_many:
        raise InvalidList(forms)
    if not all([has_form(many, form) for form in forms]):
        raise InvalidList(forms)


def form_value(form, point):
    """Return the value of a form at a point that fits."""
    return form[0] + sum([number * count for number, count in zip(form[1:], point)])


def form_with(form, many, forms):
    """Return a form with a form for `many` unknowns, one that fits, in place of each unknown."""
    parts = [form_times(part, number) for number, part in zip(form[1:], forms)]
    return sum_of_forms(many, [plain_form(many, form[0])] + parts)


def is_plain(form):
    """Tell whether no unknown stands in a form."""
    return not any(form[1:])


def form_times(form, times):
    """Return a form that is taken several times."""
    return tuple([number * times for number in form])


def sum_of_forms(many, forms):
    """Return the sum of forms for as many unknowns."""
    return tuple([sum([form[place] for form in forms]) for place in range(many + 1)])


def plain_form(many, constant):
    """Return the form with this constant in which no unknown stands."""
    return tuple([constant] + [0] * many)


def form_of_unknown(many, at, constant, number):
    """Return the form with a constant and with one unknown, taken `number` times."""
    return tuple([constant] + [number if place == at else 0 for place in range(many)])
