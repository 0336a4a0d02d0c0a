"""[0.3]: the refusals."""

import unittest

from lettermoat import errors

NAMES = ("NoText", "NoProgram", "NoMove", "NoClaim", "NoWorlds", "TooMany", "NoWitness")


class Refusals(unittest.TestCase):

    def test_letter_error_is_straight_beneath_value_error(self):
        self.assertEqual(errors.LetterError.__bases__, (ValueError,))

    def test_each_is_straight_beneath_letter_error(self):
        for name in NAMES:
            with self.subTest(name):
                self.assertEqual(getattr(errors, name).__bases__, (errors.LetterError,))

    def test_none_is_another(self):
        for name in NAMES:
            one = getattr(errors, name)("told")
            self.assertIsInstance(one, errors.LetterError)
            self.assertIsInstance(one, ValueError)
            for other in NAMES:
                with self.subTest((name, other)):
                    self.assertEqual(isinstance(one, getattr(errors, other)), name == other)

    def test_made_of_one_text(self):
        for name in NAMES + ("LetterError",):
            with self.subTest(name):
                made = getattr(errors, name)("what was wrong")
                self.assertEqual(made.args, ("what was wrong",))
                self.assertEqual(str(made), "what was wrong")


if __name__ == "__main__":
    unittest.main()
