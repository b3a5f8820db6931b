import unittest

from jostle.errors import BadMinds, BadPlaces, BadRow, DeedError, Minding


class ErrorClasses(unittest.TestCase):
    def test_deed_error_stands_straight_under_value_error(self):
        self.assertEqual(DeedError.__bases__, (ValueError,))

    def test_each_refusal_stands_straight_under_deed_error(self):
        for error in (BadMinds, BadRow, BadPlaces, Minding):
            with self.subTest(error=error.__name__):
                self.assertEqual(error.__bases__, (DeedError,))

    def test_the_refusals_are_raised_and_taken_by_their_base(self):
        for error in (DeedError, BadMinds, BadRow, BadPlaces):
            with self.subTest(error=error.__name__):
                with self.assertRaises(DeedError):
                    raise error("words")
        with self.assertRaises(DeedError):
            raise Minding(0)

    def test_minding_has_at(self):
        for at in (0, 1, 7):
            with self.subTest(at=at):
                self.assertEqual(Minding(at).at, at)

    def test_an_error_has_words(self):
        self.assertNotEqual(str(Minding(3)), "")


if __name__ == "__main__":
    unittest.main()
