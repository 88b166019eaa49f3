import unittest
from fractions import Fraction

from nestwright.fractions import added, divided, fraction, multiplied, taken
from tests.oracles import FORTY, OTHER_FORTY, pair, some_fractions

DEEDS = (
    (added, lambda a, b: a + b),
    (taken, lambda a, b: a - b),
    (multiplied, lambda a, b: a * b),
    (divided, lambda a, b: a / b),
)


def samples():
    great = [Fraction(FORTY, OTHER_FORTY), Fraction(-OTHER_FORTY, FORTY), Fraction(FORTY), Fraction(1, FORTY)]
    plain = [Fraction(0), Fraction(1), Fraction(-1), Fraction(1, 2), Fraction(-1, 2), Fraction(5, 6), Fraction(6, 5)]
    return plain + great + some_fractions(1, 20, 3) + some_fractions(2, 10, 40)


class Making(unittest.TestCase):
    def test_lowest_terms_stay(self):
        self.assertEqual(fraction(3, 4), (3, 4))
        self.assertEqual(fraction(7, 1), (7, 1))

    def test_common_parts_go(self):
        self.assertEqual(fraction(6, 4), (3, 2))
        self.assertEqual(fraction(12, 4), (3, 1))
        self.assertEqual(fraction(4, 12), (1, 3))
        self.assertEqual(fraction(5, 5), (1, 1))

    def test_the_sign_stands_at_the_top(self):
        self.assertEqual(fraction(6, 4), (3, 2))
        self.assertEqual(fraction(-6, 4), (-3, 2))
        self.assertEqual(fraction(6, -4), (-3, 2))
        self.assertEqual(fraction(-6, -4), (3, 2))
        self.assertEqual(fraction(5, -1), (-5, 1))
        self.assertEqual(fraction(-7, -7), (1, 1))

    def test_nought_at_the_top(self):
        for bottom in (1, 2, -1, -9, FORTY, -FORTY):
            self.assertEqual(fraction(0, bottom), (0, 1))

    def test_forty_figures(self):
        self.assertEqual(fraction(FORTY * 6, OTHER_FORTY * 6), pair(Fraction(FORTY, OTHER_FORTY)))
        self.assertEqual(fraction(FORTY, -FORTY), (-1, 1))
        self.assertEqual(fraction(FORTY, 7), (int("1" * 40), 1))
        self.assertEqual(fraction(10 ** 39 + 1, 10 ** 39), (10 ** 39 + 1, 10 ** 39))

    def test_all_small_ones(self):
        for top in range(-12, 13):
            for bottom in list(range(-12, 0)) + list(range(1, 13)):
                self.assertEqual(fraction(top, bottom), pair(Fraction(top, bottom)), (top, bottom))

    def test_kind(self):
        told = fraction(6, -4)
        self.assertIs(type(told), tuple)
        self.assertEqual([type(part) for part in told], [int, int])


class Reckoning(unittest.TestCase):
    def test_ordinary_ones(self):
        self.assertEqual(added((1, 2), (1, 3)), (5, 6))
        self.assertEqual(taken((1, 2), (1, 3)), (1, 6))
        self.assertEqual(taken((1, 3), (1, 2)), (-1, 6))
        self.assertEqual(multiplied((2, 3), (3, 4)), (1, 2))
        self.assertEqual(divided((1, 2), (3, 4)), (2, 3))

    def test_to_nought(self):
        self.assertEqual(added((1, 2), (-1, 2)), (0, 1))
        self.assertEqual(taken((5, 7), (5, 7)), (0, 1))
        self.assertEqual(multiplied((5, 7), (0, 1)), (0, 1))
        self.assertEqual(divided((0, 1), (-5, 7)), (0, 1))

    def test_divided_by_what_is_below_nought(self):
        self.assertEqual(divided((1, 2), (-3, 4)), (-2, 3))
        self.assertEqual(divided((-1, 2), (-3, 4)), (2, 3))
        self.assertEqual(divided((1, 1), (-1, 5)), (-5, 1))

    def test_each_deed_on_all_pairs(self):
        for a in samples():
            for b in samples():
                for deed, told in DEEDS:
                    if deed is divided and b == 0:
                        continue
                    self.assertEqual(deed(pair(a), pair(b)), pair(told(a, b)), (deed, a, b))

    def test_taken_off_and_added_again(self):
        for a in samples():
            for b in samples():
                self.assertEqual(added(taken(pair(a), pair(b)), pair(b)), pair(a))

    def test_divided_by_and_multiplied_again(self):
        for a in samples():
            for b in samples():
                if b != 0:
                    self.assertEqual(multiplied(divided(pair(a), pair(b)), pair(b)), pair(a))

    def test_asked_again_the_same(self):
        for deed, told in DEEDS:
            one, other = (-6, 35), (10, 21)
            first = deed(one, other)
            self.assertEqual(deed(one, other), first)
            self.assertEqual((one, other), ((-6, 35), (10, 21)))


if __name__ == "__main__":
    unittest.main()
