"""Open texts: what lists of pieces write at all points."""

from openloops.basics import LONGEST_WORD, is_count, is_count_below, is_letter, is_point, require_many
from openloops.errors import InvalidNumber, InvalidPoint, InvalidText, InvalidWord, TooLong, Unlike
from openloops.forms import form_times, form_value, form_with, is_plain, require_forms, sum_of_forms
from openloops.pieces import measure, normal, require_measure
from openloops.words import letters_of_runs


class OpenText:
    """What a list of pieces writes at all points."""

    def __init__(self, many, pieces):
        self._pieces = normal(many, pieces)
        self._many = many

    def many(self):
        """Return the number of unknowns."""
        return self._many

    def pieces(self):
        """Return the normal list of pieces."""
        return list(self._pieces)

    def __eq__(self, other):
        return isinstance(other, OpenText) and self._many == other._many and self._pieces == other._pieces


def size(text):
    """Return how many letters the words of the normal pieces have together."""
    require_text(text)
    return sum([len(word) for word, _ in text.pieces()])


def spread(text):
    """Return 1 plus the greatest number at an unknown in a power."""
    require_text(text)
    return 1 + max([number for _, form in powers(text) for number in form], default=0)


def unknowns(text):
    """Return the numbers of the unknowns that stand in powers."""
    require_text(text)
    return [at for at in range(text.many()) if any([form[at + 1] for _, form in powers(text)])]


def written(text, point):
    """Return the word that an open text writes at a point."""
    require_text_point(text, point)
    runs = runs_at(text.pieces(), point)
    letters_there = letters_of_runs(runs)
    if letters_there > LONGEST_WORD:
        raise TooLong(letters_there)
    return "".join([word * times for word, times in runs])


def text_letter(text, point, at):
    """Return the letter with the number `at` of what an open text writes at a point."""
    require_text_point(text, point)
    runs = runs_at(text.pieces(), point)
    if not is_count_below(letters_of_runs(runs), at):
        raise InvalidNumber(at)
    return letter_of_runs(runs, at)


def length(text):
    """Return the form for the number of letters that an open text writes."""
    require_text(text)
    return sum_of_forms(text.many(), [form_times(form, len(word)) for word, form in text.pieces()])


def letters(text, letter):
    """Return the form for how many of the letters that an open text writes are this letter."""
    require_text(text)
    if not is_letter(letter):
        raise InvalidWord(letter)
    return sum_of_forms(text.many(), [form_times(form, word.count(letter)) for word, form in text.pieces()])


def joined(one, other):
    """Return the open text that writes what `one` writes and then what `other` writes."""
    require_like_texts(one, other)
    return OpenText(one.many(), one.pieces() + other.pieces())


def repeated(text, times):
    """Return the open text that writes several times what an open text writes."""
    require_text(text)
    if not is_count(times):
        raise InvalidNumber(times)
    pieces = text.pieces()
    if pieces == []:
        return text
    # The measure is looked at first: so long a list could not even be put together.
    require_measure(measure(pieces) * times)
    return OpenText(text.many(), pieces * times)


def replaced(text, many, forms):
    """Return the open text with forms for `many` unknowns in place of the unknowns of a text."""
    require_text(text)
    require_many(many)
    require_forms(forms, many, text.many())
    return text_with(text, many, forms)


def require_text(text):
    """Raise an error unless an argument is an open text."""
    if not isinstance(text, OpenText):
        raise InvalidText(text)


def require_text_point(text, point):
    """Raise an error unless the arguments are an open text and a point for it."""
    require_text(text)
    if not is_point(text.many(), point):
        raise InvalidPoint(point)


def require_like_texts(one, other):
    """Raise an error unless both arguments are open texts for as many unknowns."""
    require_text(one)
    require_text(other)
    if one.many() != other.many():
        raise Unlike(other)


def powers(text):
    """Return the powers of an open text."""
    return [(word, form) for word, form in text.pieces() if not is_plain(form)]


def text_with(text, many, forms):
    """Return an open text with forms for `many` unknowns, ones that fit, in place of the unknowns."""
    pieces = text.pieces()
    led = pieces_with(pieces, many, forms)
    if many == text.many() and led == pieces:
        return text
    return OpenText(many, led)


def pieces_with(pieces, many, forms):
    """Return pieces with forms for `many` unknowns, ones that fit, in place of the unknowns."""
    # Many pieces may have one form, so each form is looked at once.
    made = {form: True for _, form in pieces}
    made = {form: form_with(form, many, forms) for form in made}
    return [(word, made[form]) for word, form in pieces]


def runs_at(pieces, point):
    """Return a pair (word, times) for each piece: what it writes at a point."""
    return [(word, form_value(form, point)) for word, form in pieces]


def letter_of_runs(runs, at):
    """Return the letter with the number `at` of what pairs (word, times) write, which is as long."""
    for word, times in runs:
        if at < len(word) * times:
            return word[at % len(word)]
        at -= len(word) * times
    return ""
