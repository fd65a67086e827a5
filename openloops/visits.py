"""Visits: to which statements whoever runs a part at a point comes, how often, and with which outcomes of tests."""

from openloops.amounts import value_at
from openloops.rows import TESTS, all_statements, outcome


class Visits:
    """What is come to on all runs of parts that have been told of."""

    def __init__(self, parts):
        self._parts = parts
        self._times = {}
        self._branches = {}
        self._names = {}

    def visit(self, name, point, times):
        """Tell of a part that is run so many times, at least once, at a point."""
        self._names[name] = True
        self._visit_row(name, (), self._parts[name][1], point, times)

    def times_at(self, place):
        """Return how often a statement has been come to."""
        return self._times.get(place, 0)

    def branches_at(self, place):
        """Return the outcomes that a test has had, in order."""
        return sorted(self._branches.get(place, {}))

    def has_run(self, name):
        """Tell whether a part has been run."""
        return name in self._names

    def _visit_row(self, name, path, row, point, times):
        """Tell of a row that is run so many times at a point."""
        for at, statement in enumerate(row):
            here, kind = path + (at,), statement[0]
            self._times[(name, here)] = self._times.get((name, here), 0) + times
            if kind == "times":
                turns = value_at(statement[1], point)
                if turns > 0:
                    self._visit_row(name, here + (0,), statement[2], point, times * turns)
            elif kind in TESTS:
                branch = outcome(statement, value_at(statement[1], point))
                self._branches.setdefault((name, here), {})[branch] = True
                self._visit_row(name, here + (branch,), statement[-2 + branch], point, times)
            elif kind == "call":
                self.visit(statement[1], [value_at(amount, point) for amount in statement[2]], times)


def names_under(parts, name):
    """Return the names of a part and of all parts that it calls, directly or through others, in order."""
    found, waiting = {name: True}, [name]
    while waiting != []:
        for called in names_called(parts, waiting.pop()):
            if called not in found:
                found[called] = True
                waiting.append(called)
    return [other for other in parts if other in found]


def names_calling(parts, name):
    """Return the names of a part and of all parts that call it, directly or through others, in order."""
    found = {name: True}
    for other in parts:
        # Each part stands behind those that it calls.
        if any([called in found for called in names_called(parts, other)]):
            found[other] = True
    return [other for other in parts if other in found]


def names_called(parts, name):
    """Return the names of the parts that a part itself calls, each once."""
    called = {statement[1]: True for statement in all_statements(parts[name][1]) if statement[0] == "call"}
    return list(called)
