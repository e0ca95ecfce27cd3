import unittest

from twozeros import errors

ATTRIBUTES = {
    "BadWidth": ("width",), "BadWord": ("value",), "UnlikeWidths": ("one", "other"), "BadName": ("name",),
    "BadFormula": ("value",), "BadSaying": ("value",), "TooLarge": ("what", "most"), "NoWord": ("name",),
    "NotThere": ("word",), "BadRows": ("at",), "BadWidths": ("text",), "BadPaper": (), "BadLayout": ("part", "at"),
    "BadBox": ("at",), "Dropped": ("name",), "BadRing": ("part", "at"), "BadLine": (),
}


class Errors(unittest.TestCase):
    def test_zeros_error_is_a_value_error(self):
        self.assertEqual(errors.ZerosError.__bases__, (ValueError,))
        self.assertEqual(errors.ZerosError.__module__, "twozeros.errors")

    def test_each_stands_directly_under_zeros_error(self):
        for name in ATTRIBUTES:
            with self.subTest(name):
                made = getattr(errors, name)
                self.assertEqual(made.__bases__, (errors.ZerosError,))
                self.assertEqual((made.__module__, made.__name__), ("twozeros.errors", name))

    def test_there_is_no_other_error(self):
        found = {name for name, value in vars(errors).items() if isinstance(value, type)}
        self.assertEqual(found, set(ATTRIBUTES) | {"ZerosError"})

    def test_attributes_by_position(self):
        for name, attributes in ATTRIBUTES.items():
            with self.subTest(name):
                values = [[at] for at in range(len(attributes))]
                error = getattr(errors, name)(*values)
                self.assertEqual(sorted(vars(error)), sorted(attributes))
                for attribute, value in zip(attributes, values):
                    self.assertIs(getattr(error, attribute), value)

    def test_attributes_by_name(self):
        for name, attributes in ATTRIBUTES.items():
            with self.subTest(name):
                error = getattr(errors, name)(**{attribute: attribute * 2 for attribute in attributes})
                self.assertEqual(vars(error), {attribute: attribute * 2 for attribute in attributes})

    def test_numbers_of_arguments(self):
        for name, attributes in ATTRIBUTES.items():
            if attributes:
                with self.subTest(name), self.assertRaises(TypeError):
                    getattr(errors, name)(*attributes, 1)
                with self.subTest(name), self.assertRaises(TypeError):
                    getattr(errors, name)(*attributes[1:])

    def test_caught_as_zeros_error_and_as_value_error(self):
        for kind in (errors.ZerosError, ValueError):
            for name, attributes in ATTRIBUTES.items():
                with self.subTest(name), self.assertRaises(kind):
                    raise getattr(errors, name)(*attributes)


if __name__ == "__main__":
    unittest.main()
