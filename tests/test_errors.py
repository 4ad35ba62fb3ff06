import unittest

from cutmeet import errors

OF_A_TEXT = [
    "NoWeb", "NoPlace", "NoTie", "NoText", "NoCut", "TooMany", "NoStep", "NoTree", "NoWeights", "NoFlat", "NoRing",
    "NoNames", "NoRow", "NoName",
]
OF_A_CUT = ["Apart", "NoMeeter", "TooFew"]
OF_TWO = ["Twice", "Crossed"]
OF_A_NUMBER = ["Bridge"]


class Errors(unittest.TestCase):
    def test_web_error_is_a_value_error(self):
        self.assertTrue(issubclass(errors.WebError, ValueError))

    def test_each_stands_straight_under_web_error(self):
        for word in OF_A_TEXT + OF_A_CUT + OF_TWO + OF_A_NUMBER:
            self.assertEqual(getattr(errors, word).__bases__, (errors.WebError,), word)

    def test_made_of_a_text(self):
        for word in OF_A_TEXT:
            made = getattr(errors, word)("why")
            self.assertIsInstance(made, errors.WebError)
            self.assertEqual(str(made), "why")

    def test_field_cut(self):
        for word in OF_A_CUT:
            kind = getattr(errors, word)
            self.assertEqual(kind(("a", "b")).cut, ("a", "b"))
            self.assertEqual(kind(cut=("c",)).cut, ("c",))

    def test_fields_one_and_other(self):
        for word in OF_TWO:
            kind = getattr(errors, word)
            made = kind(2, 5)
            self.assertEqual((made.one, made.other), (2, 5))
            made = kind(other=4, one=1)
            self.assertEqual((made.one, made.other), (1, 4))

    def test_field_number(self):
        for word in OF_A_NUMBER:
            kind = getattr(errors, word)
            self.assertEqual(kind(7).number, 7)
            self.assertEqual(kind(number=0).number, 0)

    def test_raised_and_taken(self):
        with self.assertRaises(errors.WebError) as taken:
            raise errors.Apart(("a",))
        self.assertEqual(taken.exception.cut, ("a",))


if __name__ == "__main__":
    unittest.main()
