"""Moves: where statements, and parts, are behind a deed that were somewhere ahead of it.

A *move* is a tuple (kind, name, other, path, start, taken, put). The part with the name `name` is the one that
the deed changes or puts. In the row of it that `path` names, `put` statements stand behind the deed where
`taken` ones stood from the number `start` on. `other` is a second name: the new one for "rename" and "out",
the one of the part called for "in".
"""

from openloops.places import statement_at


def move_of(parts, deed):
    """Return the move of a deed of a program with these parts."""
    kind, name = deed[0], deed[1]
    if kind == "splice":
        return (kind, name, None, deed[2], deed[3], deed[4], len(deed[5]))
    if kind == "out":
        return (kind, name, deed[5], deed[2], deed[3], deed[4], 1)
    if kind == "in":
        called = statement_at(parts, (name, deed[2]))[1]
        return (kind, name, called, deed[2][:-1], deed[2][-1], 1, len(parts[called][1]))
    if kind == "add":
        return (kind, deed[2][0], None, (), 0, 0, 0)
    return (kind, name, deed[2] if kind == "rename" else None, (), 0, 0, 0)


def number_in_row(place, name, path):
    """Return the number of the statement, in the row that a path names in a part, in which a place lies; or None."""
    if place[0] != name or len(place[1]) <= len(path) or place[1][:len(path)] != path:
        return None
    return place[1][len(path)]


def place_behind(move, place):
    """Return the place behind a deed of the statement that has a place ahead of it, None if it is gone."""
    kind, name, other, path, start, taken, put = move
    at = number_in_row(place, name, path)
    if at is None or kind == "add":
        return place
    if kind in ("rename", "drop"):
        return (other, place[1]) if kind == "rename" else None
    rest = place[1][len(path) + 1:]
    if at < start:
        return place
    if at < start + taken:
        return (other, (at - start,) + rest) if kind == "out" else None
    return (name, path + (at - taken + put,) + rest)


def place_ahead(move, place):
    """Return the place ahead of a deed of the statement from which the one at a place comes, None if there is none."""
    kind, name, other, path, start, taken, put = move
    if kind == "rename":
        return (name, place[1]) if place[0] == other else place
    if kind == "out" and place[0] == other:
        return (name, path + (start + place[1][0],) + place[1][1:])
    at = number_in_row(place, name, path)
    if at is None or kind == "drop":
        return place
    rest = place[1][len(path) + 1:]
    if kind == "add":
        return None
    if at < start:
        return place
    if at < start + put:
        return (other, (at - start,) + rest) if kind == "in" else None
    return (name, path + (at - put + taken,) + rest)


def place_led_back(move, place):
    """Return the place ahead of a deed of the very statement that has a place behind it, None if it was not there."""
    back = place_ahead(move, place)
    return back if back is not None and place_behind(move, back) == place else None


def name_ahead(move, name):
    """Return the name ahead of a deed of the part that has a name behind it, None if it was not there."""
    if move[0] == "rename":
        return move[1] if name == move[2] else name
    put = {"add": move[1], "out": move[2]}
    return None if put.get(move[0]) == name else name
