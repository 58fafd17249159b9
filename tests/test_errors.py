import unittest

from everywidth import errors

MADE_OF_TEXT = ("NoSum", "NoClaim", "NoWords", "NoTurning", "NoShorter", "NoAsk")
REFUSALS = MADE_OF_TEXT + ("NoName",)


class ErrorsTest(unittest.TestCase):
    def test_width_error_is_a_value_error(self):
        self.assertTrue(issubclass(errors.WidthError, ValueError))
        self.assertIsInstance(errors.WidthError("a text"), ValueError)

    def test_each_refusal_stands_under_width_error(self):
        for name in REFUSALS:
            with self.subTest(name=name):
                refusal = getattr(errors, name)
                self.assertTrue(issubclass(refusal, errors.WidthError))
                self.assertTrue(issubclass(refusal, ValueError))

    def test_no_refusal_stands_under_another(self):
        for name in REFUSALS:
            for other in REFUSALS:
                if name != other:
                    with self.subTest(name=name, other=other):
                        self.assertFalse(issubclass(getattr(errors, name), getattr(errors, other)))
            self.assertFalse(issubclass(errors.WidthError, getattr(errors, name)))

    def test_refusals_are_made_of_a_text(self):
        for name in MADE_OF_TEXT:
            with self.subTest(name=name):
                self.assertEqual(str(getattr(errors, name)("a text")), "a text")

    def test_refusals_are_taken_by_their_own_name_alone(self):
        for name in REFUSALS:
            for other in REFUSALS:
                if name != other:
                    with self.subTest(name=name, other=other):
                        with self.assertRaises(getattr(errors, name)):
                            try:
                                raise getattr(errors, name)("x")
                            except getattr(errors, other):
                                pass

    def test_no_name_keeps_its_word(self):
        for word in ("x", "abcdefgh"):
            self.assertEqual(errors.NoName(word).word, word)

    def test_each_no_name_has_its_own_word(self):
        first = errors.NoName("x")
        second = errors.NoName("y")
        self.assertEqual((first.word, second.word), ("x", "y"))

    def test_no_name_raised_keeps_its_word(self):
        with self.assertRaises(errors.WidthError) as caught:
            raise errors.NoName("width")
        self.assertEqual(caught.exception.word, "width")


if __name__ == "__main__":
    unittest.main()
