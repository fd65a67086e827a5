"""Tables of cases: one open text for each class of a grid."""

from openloops.errors import InvalidList, InvalidTable
from openloops.grids import Grid, class_of, classes, led_forms, require_grid
from openloops.tablegrids import even_grid, least_table, led_pieces
from openloops.texts import OpenText


class CaseTable:
    """Writes at each point what the text of its class writes at the place of the point."""

    def __init__(self, grid, texts):
        require_grid(grid)
        if not is_list_of_texts(grid, texts):
            raise InvalidList(texts)
        even = even_grid(grid.limits())
        limits, rows = least_table(even.limits(), even_rows(grid, texts, even))
        self._grid = Grid(limits)
        self._texts = texts_of_rows(self._grid, rows)

    def many(self):
        """Return the number of unknowns."""
        return self._grid.many()

    def grid(self):
        """Return the grid of the table."""
        return self._grid

    def texts(self):
        """Return one text for each class of the grid, in order."""
        return list(self._texts)

    def __eq__(self, other):
        return isinstance(other, CaseTable) and self._grid == other._grid and self._texts == other._texts


def require_table(table):
    """Raise an error unless an argument is a table."""
    if not isinstance(table, CaseTable):
        raise InvalidTable(table)


def is_list_of_texts(grid, value):
    """Tell whether a value is a list of open texts that go with the classes of a grid."""
    if not isinstance(value, list) or len(value) != len(classes(grid)):
        return False
    return all([isinstance(item, OpenText) and item.many() == grid.many() for item in value])


def even_rows(grid, texts, even):
    """Return, for each class of an even grid that refines another grid, what is written there.

    Often many classes have one text, so what has been led in one way is not led again.
    """
    pieces = {tuple(point): text.pieces() for point, text in zip(classes(grid), texts)}
    rows, kept = {}, {}
    for point in classes(even):
        given = pieces[tuple(class_of(grid, point))]
        forms = led_forms(even, point, grid)
        key = (tuple(given), tuple(forms))
        if key not in kept:
            kept[key] = led_pieces(given, grid.many(), forms)
        rows[tuple(point)] = kept[key]
    return rows


def texts_of_rows(grid, rows):
    """Return the open texts that have the pieces of the rows, for the classes of a grid in order."""
    texts, kept = [], {}
    for point in classes(grid):
        pieces = rows[tuple(point)]
        key = tuple(pieces)
        if key not in kept:
            kept[key] = OpenText(grid.many(), pieces)
        texts.append(kept[key])
    return texts
