"""What several tests use: plain counting, values of all kinds, and lists within results."""

import itertools
import time

from openloops.automata import Automaton
from openloops.grids import Grid
from openloops.makers import Maker
from openloops.pointsets import PointSet, all_points
from openloops.programs import Program
from openloops.tables import CaseTable
from openloops.texts import OpenText
from openloops.workshop import Workshop

BIG = 10 ** 29
GREATEST = 10 ** 30 - 1
# Far more than any call takes here, so that a slow machine does not fail a test.
SECONDS = 10


def nested(depth):
    """Return a list within lists, so many deep."""
    value = []
    for _ in range(depth - 1):
        value = [value]
    return value


DEEP = nested(30)
DEEP_TUPLE = ("a", (1, nested(28)))
TEXT = OpenText(1, [("ab", (1, 2))])
GRID = Grid([(1, 2)])
SET = all_points(1)
AUTOMATON = Automaton("a", [[1, 0], [0, 1]], ends=[0])
MAKER = Maker("a", [[(1, "", False), (0, "", True)], [(0, "x", False), (0, "a", True)]], closing=["", "a"])
TABLE = CaseTable(Grid([(0, 2)]), [OpenText(1, [("ab", (0, 1))]), OpenText(1, [("a", (0, 1))])])
PROGRAM = Program([("row", 1, [("times", ((0, 1), 0, 1), [("write", "ab")])]),
                   ("main", 2, [("below", ((0, 1, 0), 0, 1), 2, [("write", "x")],
                                 [("call", "row", [((0, 1, 1), 2, 1)])])])])
WORKSHOP = Workshop(PROGRAM)
OBJECTS = [TEXT, GRID, SET, AUTOMATON, MAKER, TABLE, PROGRAM, WORKSHOP]


def all_but(thing):
    """Return an object of each class of the package but for the class of a thing."""
    return [other for other in OBJECTS if type(other) is not type(thing)]


NO_COUNT = [None, True, False, "", "1", (1,), [1], {}, {1: 1}, -1, -BIG, DEEP] + OBJECTS
NO_MANY = NO_COUNT + [4, 5, BIG]
NO_FORM = [None, True, 1, "", "ab", [0, 7], (), (0, 0, 0, 0, 0), (-1,), (True,), (0, False), (0, "1"), (0, None),
           (0, (1,)), {}, DEEP, DEEP_TUPLE] + OBJECTS
NO_WORD = [None, True, 0, 7, "A", "a b", "ab\n", "a1", "-", " ", ["a"], ("a",), {}, "a" * 20001, DEEP] + OBJECTS
NO_LETTER = NO_WORD + ["", "ab", "aa"]
NO_TEXT = [None, True, 1, "ab", "", [("ab", (1, 2))], (1, [("ab", (1, 2))]), [], {}, DEEP] + all_but(TEXT)
NO_GRID = [None, True, 1, "", [(1, 2)], ((1, 2),), [], {}, DEEP] + all_but(GRID)
NO_SET = [None, True, 1, "", [[0]], [], (), {}, DEEP] + all_but(SET)
NO_AUTOMATON = [None, True, 1, "", "a", [[1, 0], [0, 1]], [], (), {}, DEEP] + all_but(AUTOMATON)
NO_MAKER = [None, True, 1, "", "a", [[(0, "", True)]], [], (), {}, DEEP] + all_but(MAKER)
NO_TABLE = [None, True, 1, "", [(GRID, TEXT)], (GRID, [TEXT, TEXT]), [], (), {}, DEEP] + all_but(TABLE)
NO_PROGRAM = [None, True, 1, "", "main", [], [("main", 0, [])], (), {}, DEEP] + all_but(PROGRAM)
NO_WORKSHOP = [None, True, 1, "", "main", [], [("main", 0, [])], (), {}, DEEP] + all_but(WORKSHOP)
NO_NAME = [None, True, False, 0, 1, "", "ro", "rows", "Main", "main ", ["main"], ("main",), [], {}, {"main": 1},
           DEEP] + OBJECTS


def no_point(many):
    """Return values that are no point for as many unknowns, from 1 on."""
    zeros = [0] * many
    return [None, True, 0, "", "0" * many, tuple(zeros), [], zeros[1:], zeros + [0], zeros[1:] + [-1],
            zeros[1:] + [True], zeros[1:] + [None], zeros[1:] + ["0"], [zeros] * many, {}, {0: 0}, DEEP] + OBJECTS


def no_forms(many, how_many):
    """Return values that are no list of so many forms for `many` unknowns, from 1 form on."""
    form = (0,) * (many + 1)
    forms = [form] * how_many
    return [None, True, 0, "", form, tuple(forms), [], forms[1:], forms + [form], forms[1:] + [form + (0,)],
            forms[1:] + [form[1:]], forms[1:] + [list(form)], forms[1:] + [(True,) + form[1:]],
            forms[1:] + [(-1,) + form[1:]], forms[1:] + [None], {}, DEEP] + OBJECTS


def no_amount(many):
    """Return values that are no amount for as many unknowns, from 1 on."""
    form = (0,) * (many + 1)
    return [None, True, 1, "", form, (), {}, [form, 0, 1], (form, 0), (form, 0, 1, 1), (form, 0, 0), (form, 0, -1),
            (form, -1, 1), (form, True, 1), (form, 0, True), (form, None, 1), (form, 0, None), (list(form), 0, 1),
            ((True,) + form[1:], 0, 1), (form[1:] + (-1,), 0, 1), (None, 0, 1), ("0" * many, 0, 1), DEEP,
            DEEP_TUPLE] + OBJECTS


def no_amounts(many, how_many):
    """Return values that are no list of so many amounts for `many` unknowns, from 1 amount on."""
    form = (0,) * (many + 1)
    amounts = [(form, 0, 1)] * how_many
    unlike = [(form + (0,), 0, 1), (form[1:], 0, 1)] + no_amount(many)
    return [None, True, 0, "", (form, 0, 1), tuple(amounts), [], amounts[1:], amounts + [(form, 0, 1)], {},
            DEEP] + OBJECTS + [amounts[1:] + [bad] for bad in unlike]


def cube(many, most):
    """Return all points whose numbers are at most `most`, in order."""
    return [list(point) for point in itertools.product(range(most + 1), repeat=many)]


def by_sum(many, most):
    """Return all points whose numbers have a sum of at most `most`, the least points first."""
    return sorted([point for point in cube(many, most) if sum(point) <= most], key=lambda point: (sum(point), point))


def plain_value(form, point):
    """Return the value of a form, counted plainly."""
    total = form[0]
    for number, count in zip(form[1:], point):
        total += number * count
    return total


def plain_word(pieces, point):
    """Return what pieces write at a point, written out plainly."""
    return "".join(word * plain_value(form, point) for word, form in pieces)


def random_form(chance, many, most=2):
    """Return a form with numbers of at most `most`."""
    return tuple(chance.randint(0, most) for _ in range(many + 1))


def random_pieces(chance, many, how_many, letters="ab", longest=3, most=2):
    """Return a list of pieces, the same for the same chance."""
    return [("".join(chance.choice(letters) for _ in range(chance.randint(0, longest))),
             random_form(chance, many, most)) for _ in range(how_many)]


def random_set(chance, many):
    """Return a set of points for as many unknowns, the same for the same chance."""
    # Small enough that the meeting of the grids of any two has at most 600 classes.
    most = 2 if many == 3 else 4
    limits = [(chance.randint(0, most - 1), chance.randint(1, most)) for _ in range(many)]
    points = [list(point) for point in itertools.product(*[range(sum(limit)) for limit in limits])]
    share = chance.choice([0, 0.2, 0.5, 0.8, 1])
    return PointSet(Grid(limits), [point for point in points if chance.random() < share])


def random_automaton(chance, most=4):
    states = chance.randint(1, most)
    rows = [[chance.randrange(states) for _ in range(3)] for _ in range(states)]
    ends = sorted(chance.sample(range(states), chance.randint(0, states)))
    return Automaton("ab", rows, start=chance.randrange(states), ends=ends)


def random_maker(chance, most=4):
    states = chance.randint(1, most)
    words = ["", "a", "b", "xy", "aba"]
    rows = [[(chance.randrange(states), chance.choice(words), chance.random() < 0.5) for _ in range(3)]
            for _ in range(states)]
    return Maker("ab", rows, start=chance.randrange(states), closing=[chance.choice(words) for _ in range(states)])


def lists_within(value):
    """Return all list objects within a value, in the order in which they are found."""
    if isinstance(value, list):
        return [value] + [inner for item in value for inner in lists_within(item)]
    if isinstance(value, tuple):
        return [inner for item in value for inner in lists_within(item)]
    return []


def same_list_twice(value):
    """Tell whether a list object occurs twice in a value."""
    found = lists_within(value)
    return len({id(item) for item in found}) < len(found)


def spoil(value):
    """Change all lists within a value, so that whoever still holds one of them is found out."""
    for item in lists_within(value):
        item.append("spoilt")
        item.reverse()


def raised(call):
    """Return the error that a call raises, None if it raises none."""
    try:
        call()
    except ValueError as error:
        return error
    return None


def seconds(call):
    """Return how many seconds a call takes."""
    start = time.perf_counter()
    call()
    return time.perf_counter() - start
