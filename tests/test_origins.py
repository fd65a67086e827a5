"""Origins, points [59] and [60]."""

import random
import unittest

from changing import Story, calling_program, places_of_labels, random_call
from helpers import BIG, GREATEST, SECONDS, by_sum, cube, raised, seconds
from openloops.compiled import compiled
from openloops.errors import InvalidNumber, InvalidPlace, InvalidPoint, OpenInOpen, UnknownPart
from openloops.origins import born, deed_of, parting_since, shares
from openloops.programs import Program
from openloops.running import run, run_length
from openloops.workshop import Workshop
from walking import N, Trace

LOW = ("low", 1, [("times", N, [("write", "ab")])])
PAIR = Program([LOW, ("main", 1, [("call", "low", [((0, 1), 0, 2)]), ("write", "c")])])


def stories(how_many, calls=14):
    """Yield workshops in which things have been done, with what they have to tell."""
    for seed in range(how_many):
        chance = random.Random(seed)
        shop, story = Workshop(calling_program(seed)), Story(calling_program(seed))
        for _ in range(calls):
            random_call(chance, shop, story)
        yield shop, story


def short_points(program, name, many):
    return [point for point in cube(many, [0, 5, 2, 1][many]) if run_length(program, name, point) <= 150]


class Random(unittest.TestCase):
    def test_numbers_with_which_statements_were_born(self):
        for shop, story in stories(60):
            for label, place in places_of_labels(story.parts[story.now]).items():
                self.assertEqual(born(shop, place), story.births[label])

    def test_letters_that_each_deed_has_written(self):
        for shop, story in stories(40):
            labels = {place: label for label, place in places_of_labels(story.parts[story.now]).items()}
            for name, many, _ in shop.program.parts():
                for point in short_points(shop.program, name, many):
                    counts = [0] * (story.now + 1)
                    for at, way in enumerate(Trace(shop.program, name, point).ways):
                        number = story.births[labels[way[-1][0]]]
                        counts[number] += 1
                        if at % 5 == 0:
                            self.assertEqual(deed_of(shop, name, point, at), number)
                    self.assertEqual(shares(shop, name, point), counts)
                    self.assertEqual(sum(counts), run_length(shop.program, name, point))

    def test_points_that_part_a_part_from_what_it_was(self):
        told = []
        for shop, story in stories(60, 8):
            programs = [program for program in shop.programs()]
            for name, many, _ in shop.program.parts():
                for since in range(story.now + 1):
                    before = self.name_since(story, name, since)
                    if before is None:
                        error = raised(lambda: parting_since(shop, name, since))
                        self.assertIsInstance(error, UnknownPart)
                        self.assertEqual(error.value, name)
                        told.append("new")
                    elif raised(lambda: [compiled(programs[since], before), compiled(shop.program, name)]) is None:
                        point = parting_since(shop, name, since)
                        told.append(point is None)
                        for small in by_sum(many, sum(point) if point is not None else 3):
                            same = run(programs[since], before, small) == run(shop.program, name, small)
                            self.assertEqual(same, small != point)
                            if small == point:
                                break
        self.assertEqual(set(told), {"new", True, False})

    def name_since(self, story, name, since):
        """Return the name of a part when so many deeds were done, None if it was not there, told from the deeds."""
        for deed in reversed(story.deeds[since:story.now]):
            if deed[0] == "rename" and deed[2] == name:
                name = deed[1]
            elif (deed[0] == "add" and deed[2][0] == name) or (deed[0] == "out" and deed[5] == name):
                return None
        return name


class Born(unittest.TestCase):
    def test_deeds_that_put_statements_and_deeds_that_do_not(self):
        shop = Workshop(PAIR)
        for deed in [("splice", "low", (0, 0), 1, 0, [("write", "x")]), ("out", "low", (0, 0), 0, 2, "new"),
                     ("rename", "low", "row"), ("in", "main", (0,)), ("add", 0, ("first", 0, [("write", "f")]))]:
            shop.do(deed)
        # The letters of the first program and of the first deed, and the call that the second one put, three times over.
        self.assertEqual([born(shop, place) for place in [("new", (0,)), ("new", (1,)), ("row", (0,)), ("row", (0, 0, 0)),
                                                          ("main", (0,)), ("main", (0, 0, 0)), ("main", (1,)), ("first", (0,))]],
                         [0, 1, 0, 2, 0, 2, 0, 5])
        self.assertEqual(shares(shop, "main", [7]), [6 + 1, 3, 0, 0, 0, 0])
        shop.undo()
        self.assertEqual(shares(shop, "main", [7]), [7, 3, 0, 0, 0])
        self.assertIsInstance(raised(lambda: born(shop, ("first", (0,)))), InvalidPlace)

    def test_a_statement_in_a_body_that_was_put_by_a_deed(self):
        shop = Workshop(Program([]))
        shop.do(("add", 0, ("low", 1, [("write", "a")])))
        shop.do(("add", 1, ("main", 1, [("call", "low", [N])])))
        shop.do(("splice", "low", (), 1, 0, [("write", "b")]))
        shop.do(("in", "main", (0,)))
        self.assertEqual([born(shop, ("main", (0,))), born(shop, ("main", (1,)))], [1, 3])
        self.assertEqual(shares(shop, "main", [0]), [0, 1, 0, 1, 0])
        self.assertEqual([deed_of(shop, "main", [0], at) for at in range(2)], [1, 3])

    def test_no_deeds_at_all(self):
        shop = Workshop(PAIR)
        self.assertEqual([born(shop, ("main", (0,))), shares(shop, "main", [4]), deed_of(shop, "main", [4], 4)], [0, [5], 0])
        self.assertIsNone(parting_since(shop, "main", 0))

    def test_numbers_are_those_of_the_deeds_that_stand(self):
        shop = Workshop(PAIR)
        shop.do(("rename", "low", "row"))
        shop.undo()
        shop.do(("splice", "main", (), 0, 0, [("write", "x")]))
        self.assertEqual(born(shop, ("main", (0,))), 1)
        shop.together([("rename", "low", "row"), ("splice", "main", (), 0, 0, [("write", "y")])], keep=False)
        shop.do(("splice", "main", (), 0, 0, [("write", "z")]))
        self.assertEqual([born(shop, ("main", (at,))) for at in range(4)], [2, 1, 0, 0])
        shop.undo()
        shop.redo()
        self.assertEqual(born(shop, ("main", (0,))), 2)

    def test_letters_far_out(self):
        shop = Workshop(Program([("main", 1, [("times", N, [("times", N, [("write", "a")])])])]))
        shop.do(("splice", "main", (0, 0), 1, 0, [("write", "bc")]))
        count = GREATEST
        self.assertEqual(shares(shop, "main", [count]), [count * count, 2 * count])
        self.assertEqual(deed_of(shop, "main", [count], (count + 2) * (count - 1) + count), 1)
        self.assertEqual(deed_of(shop, "main", [count], (count + 2) * (count - 1) + count - 1), 0)

    def test_the_order_of_errors(self):
        shop = Workshop(PAIR)
        self.assertIsInstance(raised(lambda: deed_of(shop, "none", None, None)), UnknownPart)
        self.assertIsInstance(raised(lambda: deed_of(shop, "main", None, None)), InvalidPoint)
        self.assertIsInstance(raised(lambda: deed_of(shop, "main", [0], 1)), InvalidNumber)
        self.assertIsInstance(raised(lambda: shares(shop, "none", None)), UnknownPart)
        self.assertIsInstance(raised(lambda: shares(shop, "main", None)), InvalidPoint)
        shop.do(("add", 0, ("new", 1, [])))
        self.assertIsInstance(raised(lambda: parting_since(shop, "none", None)), UnknownPart)
        for since in [-1, 2, True, None, BIG]:
            self.assertIsInstance(raised(lambda: parting_since(shop, "new", since)), InvalidNumber)
        self.assertIsInstance(raised(lambda: parting_since(shop, "new", 0)), UnknownPart)
        self.assertIsNone(parting_since(shop, "new", 1))

    def test_parts_with_other_names_than_before(self):
        shop = Workshop(PAIR)
        for deed in [("rename", "main", "all"), ("rename", "low", "main"), ("splice", "main", (), 0, 0, [("write", "x")])]:
            shop.do(deed)
        self.assertEqual([parting_since(shop, "main", since) for since in range(4)], [[0], [0], [0], None])
        self.assertEqual([parting_since(shop, "all", since) for since in range(4)], [[0], [0], [0], None])
        shop.undo()
        self.assertEqual([parting_since(shop, name, since) for name in ["main", "all"] for since in range(3)], [None] * 6)
        self.assertIsInstance(raised(lambda: parting_since(shop, "main", 3)), InvalidNumber)

    def test_a_part_that_was_dropped_and_put_again_is_a_new_one(self):
        shop = Workshop(PAIR)
        for deed in [("drop", "main"), ("add", 1, PAIR.parts()[1])]:
            shop.do(deed)
        self.assertEqual(shop.program, PAIR)
        for since in [0, 1]:
            self.assertIsInstance(raised(lambda: parting_since(shop, "main", since)), UnknownPart)
        self.assertIsNone(parting_since(shop, "main", 2))
        self.assertEqual(born(shop, ("main", (1,))), 2)

    def test_the_errors_of_compiling(self):
        square = [("times", N, [("times", N, [("write", "a")])])]
        shop = Workshop(Program([("main", 1, square)]))
        shop.do(("splice", "main", (), 0, 1, [("write", "a")]))
        error = raised(lambda: parting_since(shop, "main", 0))
        self.assertIsInstance(error, OpenInOpen)
        self.assertEqual(error.place, ("main", (0,)))
        self.assertIsNone(parting_since(shop, "main", 1))

    def test_limits(self):
        shop = Workshop(Program([("main", 1, [("times", N, [("write", "ab")] * 4900)])]))
        for at in range(60):
            shop.do(("splice", "main", (0, 0), at, 0, [("write", "c")]))
        self.assertLess(seconds(lambda: shares(shop, "main", [BIG])), SECONDS)
        self.assertEqual(shares(shop, "main", [BIG]), [9800 * BIG] + [BIG] * 60)
        self.assertLess(seconds(lambda: deed_of(shop, "main", [BIG], 9860 * BIG - 1)), SECONDS)
        self.assertLess(seconds(lambda: born(shop, ("main", (0, 0, 4959)))), SECONDS)


if __name__ == "__main__":
    unittest.main()
