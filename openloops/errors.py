"""The errors that the functions and classes of the package raise."""


class LoopError(ValueError):
    """What all errors of this package have in common."""


class InvalidNumber(LoopError):
    """An argument has to be a whole number within bounds, and is none."""

    def __init__(self, value=None):
        self.value = value


class InvalidWord(LoopError):
    """An argument has to be a word, and is none."""

    def __init__(self, value=None):
        self.value = value


class InvalidForm(LoopError):
    """An argument has to be a form, and is none."""

    def __init__(self, value=None):
        self.value = value


class InvalidPoint(LoopError):
    """An argument has to be a point, and is none."""

    def __init__(self, value=None):
        self.value = value


class InvalidPieces(LoopError):
    """An argument has to be a list of pieces, and is none."""

    def __init__(self, value=None):
        self.value = value


class InvalidList(LoopError):
    """An argument has to be a list of certain things, and is none."""

    def __init__(self, value=None):
        self.value = value


class InvalidLines(LoopError):
    """An argument has to be a text of certain lines, and is none."""

    def __init__(self, value=None):
        self.value = value


class InvalidPlace(LoopError):
    """An argument has to be the place of a statement, and is none."""

    def __init__(self, value=None):
        self.value = value


class InvalidAmount(LoopError):
    """An argument has to be an amount, and is none."""

    def __init__(self, value=None):
        self.value = value


class InvalidStep(LoopError):
    """An argument has to be a step of rewriting, and is none."""

    def __init__(self, value=None):
        self.value = value


class InvalidWay(LoopError):
    """An argument has to be the way of a letter, and is none."""

    def __init__(self, value=None):
        self.value = value


class InvalidDeed(LoopError):
    """An argument has to be a deed, and is none."""

    def __init__(self, value=None):
        self.value = value


class InvalidFlag(LoopError):
    """An argument has to be a Boolean, and is none."""

    def __init__(self, value=None):
        self.value = value


class InvalidText(LoopError):
    """An argument has to be an open text, and is none."""

    def __init__(self, value=None):
        self.value = value


class InvalidGrid(LoopError):
    """An argument has to be a grid, and is none."""

    def __init__(self, value=None):
        self.value = value


class InvalidSet(LoopError):
    """An argument has to be a set of points, and is none or does not fit."""

    def __init__(self, value=None):
        self.value = value


class InvalidTable(LoopError):
    """An argument has to be a table, and is none or does not fit."""

    def __init__(self, value=None):
        self.value = value


class InvalidAutomaton(LoopError):
    """An argument has to be an automaton, and is none."""

    def __init__(self, value=None):
        self.value = value


class InvalidMaker(LoopError):
    """An argument has to be a maker, and is none."""

    def __init__(self, value=None):
        self.value = value


class InvalidProgram(LoopError):
    """An argument has to be a program, and is none or does not fit."""

    def __init__(self, value=None):
        self.value = value


class InvalidWorkshop(LoopError):
    """An argument has to be a workshop, and is none."""

    def __init__(self, value=None):
        self.value = value


class InvalidPiece(LoopError):
    """An item is no piece."""

    def __init__(self, value=None):
        self.value = value


class Unlike(LoopError):
    """An argument does not go with one ahead of it."""

    def __init__(self, value=None):
        self.value = value


class TooLong(LoopError):
    """There are more letters than are allowed."""

    def __init__(self, value=None):
        self.value = value


class TooMany(LoopError):
    """There are more things than are allowed."""

    def __init__(self, value=None):
        self.value = value


class UnknownPart(LoopError):
    """No part has this name."""

    def __init__(self, value=None):
        self.value = value


class OpenInOpen(LoopError):
    """No open text can say what a loop writes."""

    def __init__(self, place=None):
        self.place = place


class NothingToUndo(LoopError):
    """There is no deed to undo."""


class NothingToRedo(LoopError):
    """There is no deed to do again."""
