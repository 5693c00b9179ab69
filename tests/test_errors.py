import unittest

from heirturns import errors
from tests.examples import told

WITH_VALUE = {
    "BadLine": "number",
    "BadRun": "place",
    "BadText": "piece",
    "Known": "name",
    "NoHeir": "name",
    "NoNumber": "number",
    "NoPlace": "number",
    "NoThing": "name",
    "NoTurns": "name",
}
WITHOUT_VALUE = ("NoList", "NothingDone", "OtherThings")


class ErrorsTest(unittest.TestCase):
    def test_above_all_is_a_value_error(self):
        self.assertEqual(errors.HeirError.__bases__, (ValueError,))

    def test_each_is_directly_under_it(self):
        for name in [*WITH_VALUE, *WITHOUT_VALUE]:
            self.assertEqual(getattr(errors, name).__bases__, (errors.HeirError,), name)

    def test_there_are_twelve(self):
        found = [
            name
            for name, value in vars(errors).items()
            if isinstance(value, type) and issubclass(value, errors.HeirError)
        ]
        self.assertEqual(sorted(found), sorted(["HeirError", *WITH_VALUE, *WITHOUT_VALUE]))

    def test_values_by_position_and_by_name(self):
        for name, attribute in WITH_VALUE.items():
            for value in (7, 10 ** 30, -1, "lamp"):
                for error in (getattr(errors, name)(value), getattr(errors, name)(**{attribute: value})):
                    self.assertEqual(vars(error), {attribute: value}, name)

    def test_the_value_must_be_there(self):
        for name in WITH_VALUE:
            with self.assertRaises(TypeError):
                getattr(errors, name)()

    def test_errors_without_values(self):
        for name in WITHOUT_VALUE:
            self.assertEqual(told(getattr(errors, name)()), f"{name}()")

    def test_caught_as_value_error(self):
        for name in WITH_VALUE:
            with self.assertRaises(ValueError):
                raise getattr(errors, name)(3)


if __name__ == "__main__":
    unittest.main()
