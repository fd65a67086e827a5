"""What is wrong with texts of programs, line by line, and what is told by the lines that are right."""

from openloops.drafts import Draft
from openloops.errors import InvalidLines
from openloops.printer import program_text
from openloops.programs import Program
from openloops.textlines import lines_of_text, words_of_line


def faults(text):
    """Return (line, reason) for each line that is left out, and for each line `end` that is missing."""
    found, draft = taken(text)
    behind = len(lines_of_text(text)) + 1
    return found + [(behind, "open")] * draft.lines_missing()


def mended(text):
    """Return the text of the program that is told by the lines that are not left out."""
    _, draft = taken(text)
    return program_text(Program(draft.parts()))


def taken(text):
    """Return (line, reason) for each line that is left out, and the draft that has taken the others."""
    if not isinstance(text, str):
        raise InvalidLines(text)
    found, draft = [], Draft()
    for at, line in enumerate(lines_of_text(text)):
        words = words_of_line(line)
        reason = draft.take(words) if words != [] else None
        if reason is not None:
            found.append((at + 1, reason))
    return found, draft
