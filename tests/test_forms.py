"""Point [6]: forms."""

import random
import unittest

from helpers import BIG, DEEP, GREATEST, NO_FORM, cube, plain_value, raised
from openloops.errors import InvalidForm, InvalidList, InvalidPoint
from openloops.forms import inserted, is_form, value


class Forms(unittest.TestCase):
    def test_example(self):
        found = [value((3, 1, 2), [10, 100]), inserted((1, 2, 3), 1, [(5, 1), (0, 4)]), is_form(1, (0, 7)),
                 is_form(2, (0, 7)), is_form(1, [0, 7])]
        self.assertEqual(found, [213, (11, 14), True, False, False])

    def test_is_form_for_each_number_of_unknowns(self):
        for many in range(4):
            for length in range(7):
                self.assertIs(is_form(many, (0,) * length), length == many + 1)
                self.assertIs(is_form(many, (GREATEST * 10,) * length), length == many + 1)

    def test_is_form_takes_any_value(self):
        for bad in NO_FORM + [(1, True), (False, 1), (-1, 1), (0, 0.5), (0, [1]), DEEP]:
            self.assertIs(is_form(1, bad), False)

    def test_value_is_the_sum(self):
        chance = random.Random(6)
        for many in range(4):
            for _ in range(50):
                form = tuple(chance.choice([0, 1, 7, BIG]) for _ in range(many + 1))
                point = [chance.choice([0, 1, 5, GREATEST]) for _ in range(many)]
                self.assertEqual(value(form, point), plain_value(form, point))

    def test_value_of_forms_without_unknowns(self):
        self.assertEqual([value((7,), []), value((0, 0, 0, 0), [1, 2, 3])], [7, 0])

    def test_value_fits_the_point_to_the_form(self):
        for form, point in [((1,), [0]), ((1, 2), []), ((1, 2), [1, 2]), ((1, 2, 3, 4), [1, 2]), ((1, 2), (1,))]:
            error = raised(lambda: value(form, point))
            self.assertIs(type(error), InvalidPoint)
            self.assertIs(error.value, point)

    def test_five_numbers_are_no_form(self):
        self.assertIs(type(raised(lambda: value((0, 0, 0, 0, 0), [1, 2, 3, 4]))), InvalidForm)
        self.assertIs(type(raised(lambda: inserted((), 0, []))), InvalidForm)

    def test_inserted_has_the_value_of_the_values(self):
        chance = random.Random(66)
        for unknowns in range(4):
            for many in range(4):
                form = tuple(chance.choice([0, 1, 3, BIG]) for _ in range(unknowns + 1))
                forms = [tuple(chance.choice([0, 2, 5, BIG]) for _ in range(many + 1)) for _ in range(unknowns)]
                result = inserted(form, many, forms)
                self.assertTrue(is_form(many, result))
                for point in cube(many, 2):
                    values = [plain_value(inner, point) for inner in forms]
                    self.assertEqual(plain_value(result, point), plain_value(form, values))

    def test_inserted_wants_as_many_forms_as_unknowns(self):
        for form, many, forms in [((1, 2), 1, []), ((1, 2), 1, [(0, 1), (0, 1)]), ((1, 2), 2, [(0, 1)]),
                                  ((1,), 2, [(0, 1, 1)]), ((1, 2), 0, [(0, 0)])]:
            error = raised(lambda: inserted(form, many, forms))
            self.assertIs(type(error), InvalidList)
            self.assertIs(error.value, forms)


if __name__ == "__main__":
    unittest.main()
