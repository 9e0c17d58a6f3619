import unittest

from leapwork import errors

FIELDS = {
    "NoText": ("word", "form"), "NoWriting": ("place", 7), "NoName": ("name", "a"), "Standing": ("name", "a"),
    "Full": ("most", 18), "NoMark": ("number", 3), "BadLine": ("place", -1),
}
OF_A_TEXT = ("NoInputs", "NoTicks", "NoWorths", "NoGoal", "NoPaper")
ANYTHING = (None, True, 10 ** 5000, "", ("a", [1, ()]), ["b"], -1)


class Errors(unittest.TestCase):
    def test_base_is_a_value_error(self):
        self.assertEqual(errors.WorkError.__bases__, (ValueError,))

    def test_each_stands_right_under_the_base(self):
        for name in list(FIELDS) + list(OF_A_TEXT):
            with self.subTest(name):
                self.assertEqual(getattr(errors, name).__bases__, (errors.WorkError,))

    def test_there_are_no_others(self):
        own = [name for name, value in vars(errors).items() if isinstance(value, type)]
        self.assertEqual(sorted(own), sorted(["WorkError", *FIELDS, *OF_A_TEXT]))

    def test_fields(self):
        for name, (field, value) in FIELDS.items():
            with self.subTest(name):
                error = getattr(errors, name)(value)
                self.assertEqual(vars(error), {field: value})
                self.assertIsInstance(str(error), str)

    def test_fields_keep_anything_as_it_is(self):
        for name, (field, _) in FIELDS.items():
            for value in ANYTHING:
                with self.subTest(name=name):
                    error = getattr(errors, name)(value)
                    self.assertIs(getattr(error, field), value)
                    self.assertIsInstance(str(error), str)

    def test_fields_are_due(self):
        for name in FIELDS:
            with self.subTest(name), self.assertRaises(TypeError):
                getattr(errors, name)()

    def test_made_of_a_text(self):
        for name in OF_A_TEXT:
            with self.subTest(name):
                self.assertEqual(str(getattr(errors, name)("why not")), "why not")

    def test_caught_by_the_base_and_not_by_another(self):
        for name in list(FIELDS) + list(OF_A_TEXT):
            for other in list(FIELDS) + list(OF_A_TEXT):
                error = getattr(errors, name)("a")
                self.assertIsInstance(error, errors.WorkError)
                self.assertEqual(isinstance(error, getattr(errors, other)), name == other)


if __name__ == "__main__":
    unittest.main()
