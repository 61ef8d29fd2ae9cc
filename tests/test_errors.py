import unittest

from cordbook import errors

NAMES = ("Crowded", "NoSheet", "NoPlace", "NoMove", "NoNote")


class ErrorsTest(unittest.TestCase):
    def test_any_refusal_is_a_cord_error_and_a_value_error(self):
        self.assertTrue(issubclass(errors.CordError, ValueError))
        for name in NAMES:
            with self.subTest(name):
                self.assertTrue(issubclass(getattr(errors, name), errors.CordError))

    def test_none_of_the_five_is_beneath_another(self):
        for name in NAMES:
            for other in NAMES:
                with self.subTest(name=name, other=other):
                    beneath = issubclass(getattr(errors, name), getattr(errors, other))
                    self.assertEqual(beneath, name == other)

    def test_cord_error_itself_is_none_of_the_five(self):
        for name in NAMES:
            self.assertIsNot(getattr(errors, name), errors.CordError)


if __name__ == "__main__":
    unittest.main()
