import unittest

from boughdraw import errors

NAMES = ["NoTree", "NoNode", "NoText", "NoPicture", "TooMany", "NoDeed", "NoPlace"]


class TestErrors(unittest.TestCase):
    def test_draw_error_stands_under_value_error(self):
        self.assertEqual(errors.DrawError.__bases__, (ValueError,))

    def test_each_stands_right_under_draw_error(self):
        for name in NAMES:
            with self.subTest(name):
                self.assertEqual(getattr(errors, name).__bases__, (errors.DrawError,))

    def test_none_stands_under_another(self):
        for one in NAMES:
            for other in NAMES:
                if one != other:
                    with self.subTest(one=one, other=other):
                        self.assertFalse(issubclass(getattr(errors, one), getattr(errors, other)))

    def test_each_is_raised_and_taken_as_a_refusal(self):
        for name in NAMES:
            with self.subTest(name), self.assertRaises(errors.DrawError):
                raise getattr(errors, name)("words")


if __name__ == "__main__":
    unittest.main()
