import unittest

from hydrahouse import errors

NAMES = [
    "NoNumber", "Nought", "TooHigh", "NoLimit", "NoHead", "NoStep", "NoFit", "TooGreat", "NoFall", "NoChore",
    "NoText", "NoName", "NoRow",
]


class Errors(unittest.TestCase):
    def test_the_base_stands_under_value_error(self):
        self.assertTrue(issubclass(errors.HydraError, ValueError))

    def test_each_class_stands_straight_under_the_base(self):
        for name in NAMES:
            with self.subTest(name=name):
                self.assertEqual(getattr(errors, name).__bases__, (errors.HydraError,))

    def test_none_stands_under_another_one(self):
        for name in NAMES:
            for other in NAMES:
                if name != other:
                    with self.subTest(name=name, other=other):
                        self.assertFalse(issubclass(getattr(errors, name), getattr(errors, other)))

    def test_each_is_raised_with_words_and_taken_as_any_refusal(self):
        for name in NAMES:
            with self.subTest(name=name):
                with self.assertRaises(errors.HydraError) as caught:
                    raise getattr(errors, name)("words")
                self.assertEqual(str(caught.exception), "words")


if __name__ == "__main__":
    unittest.main()
