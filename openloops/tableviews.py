"""What tables write, tables put together, and what parts two tables."""

from openloops.alike import decisive_point, points_in_question
from openloops.amounts import amount_form, has_amount, needed_limits
from openloops.basics import LONGEST_WORD, is_count_below, is_point, require_many
from openloops.errors import InvalidList, InvalidNumber, InvalidPoint, InvalidTable, TooLong, Unlike
from openloops.forms import form_value, is_plain
from openloops.grids import (Grid, class_count, class_of, classes, forms_of, led_forms, meeting, meeting_limits,
                             place_in_class, refines, require_grid)
from openloops.pieces import measure
from openloops.pointsets import PointSet, require_set
from openloops.tablegrids import even_grid
from openloops.tables import CaseTable, require_table
from openloops.texts import joined, letter_of_runs, pieces_with, require_text, runs_at, size, text_with
from openloops.words import letters_of_runs, same_runs


def text_at(table, point):
    """Return the text of the class in which a point lies."""
    require_table_point(table, point)
    return texts_by_class(table)[tuple(class_of(table.grid(), point))]


def table_written(table, point):
    """Return the word that a table writes at a point."""
    runs = table_runs(table, point)
    letters = letters_of_runs(runs)
    if letters > LONGEST_WORD:
        raise TooLong(letters)
    return "".join([word * times for word, times in runs])


def table_length(table, point):
    """Return how many letters a table writes at a point."""
    return letters_of_runs(table_runs(table, point))


def table_letter(table, point, at):
    """Return the letter with the number `at` of what a table writes at a point."""
    runs = table_runs(table, point)
    if not is_count_below(letters_of_runs(runs), at):
        raise InvalidNumber(at)
    return letter_of_runs(runs, at)


def texts_on(table, grid):
    """Return, for each class of a grid that refines the grid of a table, what the table writes in it."""
    require_table(table)
    require_grid(grid)
    if grid.many() != table.many() or not refines(grid, table.grid()):
        raise Unlike(grid)
    texts = texts_by_class(table)
    return [text_led_to(table, texts, grid, point) for point in classes(grid)]


def table_of(text):
    """Return the table that writes at each point what an open text writes there."""
    require_text(text)
    return CaseTable(Grid([(0, 1)] * text.many()), [text])


def joined_tables(one, other):
    """Return the table that writes what `one` writes and then what `other` writes."""
    require_like_tables(one, other)
    grid = grid_for_table(meeting_limits(one.grid().limits(), other.grid().limits()))
    texts, mates = texts_by_class(one), texts_by_class(other)
    return CaseTable(grid, [joined(text_led_to(one, texts, grid, point), text_led_to(other, mates, grid, point))
                            for point in classes(grid)])


def table_at(table, many, amounts):
    """Return the table for `many` unknowns with amounts in place of the unknowns of a table."""
    require_table(table)
    require_many(many)
    if not isinstance(amounts, list) or len(amounts) != table.many():
        raise InvalidList(amounts)
    if not all([has_amount(many, amount) for amount in amounts]):
        raise InvalidList(amounts)
    limits = table.grid().limits()
    grid = grid_for_table(needed_limits(many, list(zip(amounts, limits))))
    texts = texts_by_class(table)
    return CaseTable(grid, [text_at_amounts(texts, limits, amounts, forms_of(grid.limits(), point))
                            for point in classes(grid)])


def chosen(points, one, other):
    """Return the table that writes what `one` writes at the points of a set, and what `other` writes elsewhere."""
    require_set(points)
    require_table(one)
    require_table(other)
    for table in [one, other]:
        if table.many() != points.many():
            raise Unlike(table)
    limits = meeting_limits(one.grid().limits(), other.grid().limits())
    grid = grid_for_table(meeting_limits(limits, points.grid().limits()))
    texts, mates = texts_by_class(one), texts_by_class(other)
    return CaseTable(grid, [text_led_to(one, texts, grid, point) if point in points
                            else text_led_to(other, mates, grid, point) for point in classes(grid)])


def parting_tables(one, other):
    """Return the least point at which two tables write different words, None if they are equal.

    The classes are gone through with the least points first, so that those that begin behind a
    point that has been found need not be looked at.
    """
    require_like_tables(one, other)
    grid = meeting(one.grid(), other.grid())
    best = None
    for row in sorted([(sum(point), point) for point in classes(grid)]):
        if best is None or row < best:
            pieces, rivals = pieces_led_to(one, grid, row[1]), pieces_led_to(other, grid, row[1])
            if not same_pieces(grid.many(), pieces, rivals):
                best = parting_in_class(forms_of(grid.limits(), row[1]), pieces, rivals, best)
    return None if best is None else best[1]


def agreeing_points(one, other):
    """Return the set of the points at which two tables for at most one unknown write the same word."""
    for table in [one, other]:
        require_table(table)
        if table.many() > 1:
            raise InvalidTable(table)
    require_like_tables(one, other)
    grid = meeting(one.grid(), other.grid())
    pairs = list(zip(classes(grid), texts_on(one, grid), texts_on(other, grid)))
    equal = [point for point, text, mate in pairs if text == mate]
    single = [agreed for point, text, mate in pairs if text != mate
              for agreed in agreeing_in_class(forms_of(grid.limits(), point), text, mate)]
    limits = [(max([limit[0]] + [point[0] + 1 for point in single]), limit[1]) for limit in grid.limits()]
    finer = Grid(limits)
    return PointSet(finer, single + [point for point in classes(finer) if class_of(grid, point) in equal])


def require_table_point(table, point):
    """Raise an error unless the arguments are a table and a point for it."""
    require_table(table)
    if not is_point(table.many(), point):
        raise InvalidPoint(point)


def require_like_tables(one, other):
    """Raise an error unless both arguments are tables for as many unknowns."""
    require_table(one)
    require_table(other)
    if one.many() != other.many():
        raise Unlike(other)


def table_runs(table, point):
    """Return pairs (word, times): what a table writes at a point."""
    text = text_at(table, point)
    return runs_at(text.pieces(), place_in_class(table.grid(), point))


def texts_by_class(table):
    """Return the text of each class of a table; the class is a tuple."""
    return {tuple(point): text for point, text in zip(classes(table.grid()), table.texts())}


def text_led_to(table, texts, grid, point):
    """Return what a table writes in a class of a finer grid, for the texts of its classes."""
    text = texts[tuple(class_of(table.grid(), point))]
    return text_with(text, grid.many(), led_forms(grid, point, table.grid()))


def grid_for_table(limits):
    """Return the grid with these limits, with the errors of a table that is made of it."""
    # It has at most as many classes as the even grid, which is the one that may be refused.
    even_grid(limits)
    return Grid(limits)


def text_at_amounts(texts, limits, amounts, forms):
    """Return what a table writes at the values of amounts, in a class in which forms stand for the unknowns.

    `limits` are those of the grid of the table.
    """
    many = len(forms)
    return text_at_forms(texts, limits, many, [amount_form(amount, many, forms) for amount in amounts])


def text_at_forms(texts, limits, many, values):
    """Return what a table writes at the values of forms for `many` unknowns, all of which lie in one of its classes."""
    row = [class_count(limit, value[0]) for limit, value in zip(limits, values)]
    places = [tuple([(number - (count if at == 0 else 0)) // limit[1] for at, number in enumerate(value)])
              for limit, value, count in zip(limits, values, row)]
    return text_with(texts[tuple(row)], many, places)


def pieces_led_to(table, grid, point):
    """Return pieces, not normal ones, for what a table writes in a class of a finer grid, however long they are."""
    text = text_at(table, point)
    return pieces_with(text.pieces(), grid.many(), led_forms(grid, point, table.grid()))


def same_pieces(many, one, other):
    """Tell whether two lists of pieces write the same word at every point.

    The point that decides this may be one for greater sizes and spreads than the two have when
    they are normal; so they are not made normal, for which they may be far too long.
    """
    if one == other:
        return True
    letters = 1 + max(measure(one), measure(other))
    numbers = [number for pieces in [one, other] for _, form in pieces for number in form[1:]]
    place = decisive_point(many, letters, 1 + sum(numbers))
    return same_runs(runs_at(one, place), runs_at(other, place))


def parting_in_class(forms, one, other, best):
    """Return (sum, point) for the least point in a class that parts pieces for its places, or what is less.

    The forms are those of the class, `best` is such a pair for another class, or None.
    """
    powers = [form for _, form in one + other if not is_plain(form)]
    going = [at for at, form in enumerate(forms) if not is_plain(form)]
    rows = []
    for counts in points_in_question(len(going), 1 + len(powers)):
        place = [counts[going.index(at)] if at in going else 0 for at in range(len(forms))]
        point = [form_value(form, place) for form in forms]
        rows.append((sum(point), point, place))
    pieces, rivals = unlike_middles(one, other)
    for total, point, place in sorted(rows):
        if best is not None and (total, point) > best:
            return best
        if not same_runs(runs_at(pieces, place), runs_at(rivals, place)):
            return (total, point)
    return best


def unlike_middles(one, other):
    """Return what is left of two lists of pieces without those that are alike at both ends.

    At each point the whole lists write the same word just if what is left of them does.
    """
    both, front, end = min(len(one), len(other)), 0, 0
    while front < both and one[front] == other[front]:
        front += 1
    while end < both - front and one[-1 - end] == other[-1 - end]:
        end += 1
    return one[front:len(one) - end], other[front:len(other) - end]


def agreeing_in_class(forms, one, other):
    """Return the points of a class at which two texts for its places, which are not equal, write the same word."""
    pieces, rivals = unlike_middles(one.pieces(), other.pieces())
    most = max(size(one), size(other)) if any([not is_plain(form) for form in forms]) else 0
    places = [[number for _ in forms] for number in range(most + 1)]
    return [[form_value(form, place) for form in forms] for place in places
            if same_runs(runs_at(pieces, place), runs_at(rivals, place))]
