import unittest

from keptreading import errors

NAMES = [
    "NoName", "NoForm", "NoBook", "Loops", "NoRule", "NoText", "NoPlace", "NoDeed", "TooMany", "NoRows", "NoRow",
]


class Errors(unittest.TestCase):
    def test_read_error_stands_straight_under_value_error(self):
        self.assertEqual(errors.ReadError.__bases__, (ValueError,))

    def test_each_class_stands_straight_under_read_error(self):
        for name in NAMES:
            with self.subTest(name=name):
                self.assertEqual(getattr(errors, name).__bases__, (errors.ReadError,))
                self.assertEqual(getattr(errors, name).__name__, name)

    def test_none_stands_under_another_one(self):
        classes = [getattr(errors, name) for name in NAMES]
        for one in classes:
            for other in classes:
                self.assertEqual(issubclass(one, other), one is other)

    def test_there_are_no_others(self):
        self.assertEqual({kind.__name__ for kind in errors.ReadError.__subclasses__()}, set(NAMES))

    def test_each_can_be_raised_and_taken(self):
        for name in NAMES:
            with self.assertRaises(errors.ReadError):
                raise getattr(errors, name)("words")


if __name__ == "__main__":
    unittest.main()
