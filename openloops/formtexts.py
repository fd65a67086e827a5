"""Numbers, forms and amounts as they are written in lines of texts, and as they are read.

What is read of a form is a tuple (form, named): the form for 3 unknowns, and 1 more than the greatest
number of an unknown that is named in it, also with the number 0; 0 if none is.
"""

from openloops.basics import MOST_UNKNOWNS
from openloops.forms import form_of_unknown, plain_form, sum_of_forms

UNKNOWNS = ("0", "1", "2")


def form_text(form):
    """Return a form as it is written."""
    summands = [str(form[0])] if form[0] > 0 else []
    for at, number in enumerate(form[1:]):
        if number > 0:
            summands.append(f"n{at}" if number == 1 else f"{number}n{at}")
    return "+".join(summands) if summands != [] else "0"


def amount_text(amount):
    """Return an amount as it is written."""
    form, less, by = amount
    text = form_text(form) + (f"-{less}" if less > 0 else "")
    return f"({text})/{by}" if by > 1 else text


def read_number(text):
    """Return the count that a text tells, None if it tells none."""
    if not text.isascii() or not text.isdigit() or (text[0] == "0" and text != "0"):
        return None
    return int(text)


def read_form(text):
    """Return what is read of a form, None if a text tells none."""
    forms, named = [], 0
    for summand in text.split("+"):
        head, sign, unknown = summand.partition("n")
        number = 1 if head == "" and sign != "" else read_number(head)
        if number is None or (sign != "" and unknown not in UNKNOWNS):
            return None
        if sign == "":
            forms.append(plain_form(MOST_UNKNOWNS, number))
        else:
            at = UNKNOWNS.index(unknown)
            forms.append(form_of_unknown(MOST_UNKNOWNS, at, 0, number))
            named = max(named, at + 1)
    return sum_of_forms(MOST_UNKNOWNS, forms), named


def read_amount(text):
    """Return a tuple of the amount for 3 unknowns that a text tells and of what is named, None if it tells none."""
    by = 1
    if text.startswith("("):
        text, sign, behind = text[1:].partition(")/")
        by = read_number(behind)
        if sign == "" or by is None or by == 0:
            return None
    head, sign, behind = text.partition("-")
    told, less = read_form(head), 0 if sign == "" else read_number(behind)
    if told is None or less is None:
        return None
    return (told[0], less, by), told[1]


def form_for(many, form):
    """Return a form for as many unknowns that is told by one for 3 unknowns."""
    return form[:many + 1]
