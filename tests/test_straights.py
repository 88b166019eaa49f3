import unittest
from fractions import Fraction

from nestwright.puts import put
from nestwright.straights import straight, turned_back
from tests.oracles import FORTY, OTHER_FORTY, X, great_poly, line, nested, pair, some_fractions

FRACTIONS = some_fractions(31, 12) + [Fraction(FORTY, OTHER_FORTY), Fraction(-OTHER_FORTY, FORTY), Fraction(0)]
LINES = [(a, b) for a in FRACTIONS if a for b in FRACTIONS]


class Straight(unittest.TestCase):
    def test_known_ones(self):
        self.assertEqual(straight((2, 1), (3, 1)), ((3, 2), 1))
        self.assertEqual(straight((1, 1), (0, 1)), X)
        self.assertEqual(straight((-1, 2), (1, 3)), ((2, -3), 6))

    def test_a_at_one_and_b_at_nought(self):
        for a, b in LINES:
            self.assertEqual(straight(pair(a), pair(b)), line(a, b))


class TurnedBack(unittest.TestCase):
    def test_known_ones(self):
        self.assertEqual(turned_back(X), X)
        self.assertEqual(turned_back(((1, 1), 1)), ((-1, 1), 1))
        self.assertEqual(turned_back(((3, 2), 1)), ((-3, 1), 2))
        self.assertEqual(turned_back(((0, -1), 3)), ((0, -3), 1))
        self.assertEqual(turned_back(((5, -1), 1)), ((5, -1), 1))

    def test_either_way_about_it_comes_to_x(self):
        for a, b in LINES:
            l = line(a, b)
            self.assertEqual(nested(l, turned_back(l)), X)
            self.assertEqual(nested(turned_back(l), l), X)
            self.assertEqual(turned_back(l), line(1 / a, -b / a))

    def test_turned_back_twice(self):
        for a, b in LINES:
            self.assertEqual(turned_back(turned_back(line(a, b))), line(a, b))

    def test_what_was_told_is_handed_on(self):
        l = put(great_poly(32, 1), put(great_poly(33, 1), great_poly(34, 1)))
        self.assertEqual(put(l, turned_back(l)), X)
        self.assertEqual(put(turned_back(l), l), X)

    def test_asked_again_the_same_and_nothing_changed(self):
        l = ((3, 2), 5)
        self.assertEqual(turned_back(l), turned_back(l))
        self.assertEqual(l, ((3, 2), 5))


if __name__ == "__main__":
    unittest.main()
