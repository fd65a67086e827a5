"""Programs read from their texts."""

from openloops.drafts import Draft
from openloops.errors import InvalidLines
from openloops.programs import Program
from openloops.textlines import lines_of_text, words_of_line


def read_program(text):
    """Return the program that a text tells."""
    if not isinstance(text, str):
        raise InvalidLines(text)
    draft = Draft()
    for line in lines_of_text(text):
        words = words_of_line(line)
        if words != [] and draft.take(words) is not None:
            raise InvalidLines(text)
    if draft.lines_missing() > 0:
        raise InvalidLines(text)
    return Program(draft.parts())


def wrong_line(text):
    """Return the number of the first line with which no text that is read goes on, None if the text is read."""
    if not isinstance(text, str):
        raise InvalidLines(text)
    draft, lines = Draft(), lines_of_text(text)
    for at, line in enumerate(lines):
        words = words_of_line(line)
        if words != [] and draft.take(words) is not None:
            return at + 1
    return len(lines) + 1 if draft.lines_missing() > 0 else None
