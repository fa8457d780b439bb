import unittest

from lampwatch import errors

NAMES = ["NoLight", "NoBook", "NoSight", "NoFit", "TooLong", "NoNote"]


class TestErrors(unittest.TestCase):
    def test_lamp_error_stands_straight_under_value_error(self):
        self.assertEqual(errors.LampError.__bases__, (ValueError,))

    def test_each_refusal_stands_straight_under_lamp_error(self):
        for name in NAMES:
            with self.subTest(name=name):
                self.assertEqual(getattr(errors, name).__bases__, (errors.LampError,))
                self.assertEqual(getattr(errors, name).__name__, name)

    def test_the_refusals_are_six_classes(self):
        self.assertEqual(len({getattr(errors, name) for name in NAMES}), 6)

    def test_no_refusal_is_taken_for_another(self):
        for name in NAMES:
            for other in NAMES:
                if name != other:
                    with self.subTest(name=name, other=other):
                        self.assertFalse(issubclass(getattr(errors, name), getattr(errors, other)))


if __name__ == "__main__":
    unittest.main()
