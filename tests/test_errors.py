"""The refusals: the interface behind [1.5]."""
import unittest

from retrace import errors

NAMES = ("NoProgram", "NoRow", "TooLong", "NoWorld", "NoText", "NoStep", "NoCell", "NoDoor", "NoWord")


class Errors(unittest.TestCase):
    def test_run_error_stands_under_value_error(self):
        self.assertTrue(issubclass(errors.RunError, ValueError))
        self.assertEqual(errors.RunError.__name__, "RunError")

    def test_each_stands_straight_under_run_error(self):
        for name in NAMES:
            with self.subTest(name=name):
                found = getattr(errors, name)
                self.assertEqual(found.__bases__, (errors.RunError,))
                self.assertEqual(found.__name__, name)

    def test_each_is_under_none_of_the_others(self):
        for name in NAMES:
            for other in NAMES:
                with self.subTest(name=name, other=other):
                    under = issubclass(getattr(errors, name), getattr(errors, other))
                    self.assertIs(under, name == other)

    def test_each_is_made_of_one_text(self):
        for name in NAMES + ("RunError",):
            with self.subTest(name=name):
                made = getattr(errors, name)("some words")
                self.assertEqual(str(made), "some words")
                self.assertEqual(made.args, ("some words",))

    def test_each_is_taken_by_its_name_and_as_any_refusal(self):
        for name in NAMES:
            for taken in (name, "RunError"):
                with self.subTest(name=name, taken=taken):
                    with self.assertRaises(getattr(errors, taken)):
                        raise getattr(errors, name)("some words")


if __name__ == "__main__":
    unittest.main()
