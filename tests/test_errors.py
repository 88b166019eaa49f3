import unittest

from nestwright.errors import BadText, NestError, NoName, NoRow, TooGreat, Twice

REFUSALS = (BadText, NoName, Twice, TooGreat, NoRow)


class Classes(unittest.TestCase):
    def test_nest_error_is_a_value_error(self):
        self.assertEqual(NestError.__bases__, (ValueError,))

    def test_each_refusal_stands_right_under_nest_error(self):
        for refusal in REFUSALS:
            self.assertEqual(refusal.__bases__, (NestError,), refusal)

    def test_none_stands_under_another(self):
        for one in REFUSALS:
            for other in REFUSALS:
                self.assertEqual(issubclass(one, other), one is other, (one, other))

    def test_none_stands_under_a_python_error_beside_value_error(self):
        for refusal in REFUSALS:
            self.assertFalse(issubclass(refusal, (LookupError, ArithmeticError, TypeError)), refusal)

    def test_names(self):
        names = [refusal.__name__ for refusal in REFUSALS]
        self.assertEqual(names, ["BadText", "NoName", "Twice", "TooGreat", "NoRow"])


class Fields(unittest.TestCase):
    def test_bad_text_keeps_at(self):
        for at in (0, 1, 7):
            self.assertEqual(BadText(at).at, at)

    def test_names_are_kept(self):
        for refusal in (NoName, Twice, TooGreat):
            self.assertEqual(refusal("abc").name, "abc")
            self.assertEqual(refusal("q").name, "q")

    def test_two_refusals_keep_each_its_own(self):
        one, other = BadText(1), BadText(2)
        self.assertEqual((one.at, other.at), (1, 2))

    def test_raised_ones_keep_their_fields(self):
        with self.assertRaises(NestError) as caught:
            raise TooGreat("row")
        self.assertEqual(caught.exception.name, "row")
        with self.assertRaises(ValueError) as caught:
            raise BadText(3)
        self.assertEqual(caught.exception.at, 3)

    def test_no_row_is_made_with_nothing(self):
        with self.assertRaises(NoRow):
            raise NoRow()

    def test_what_is_made_with_something_asks_for_it(self):
        for refusal in (BadText, NoName, Twice, TooGreat):
            with self.assertRaises(TypeError):
                refusal()


if __name__ == "__main__":
    unittest.main()
