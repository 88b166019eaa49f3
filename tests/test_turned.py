import unittest
from fractions import Fraction

from nestwright.puts import put
from nestwright.turned import turned
from tests.oracles import (
    FORTY, OTHER_FORTY, X, angles, letter_to, listed, number, pair, poly_of, product_of, sum_of, value_at,
)

GREAT = [Fraction(FORTY, OTHER_FORTY), Fraction(-OTHER_FORTY, FORTY), Fraction(FORTY), Fraction(1, OTHER_FORTY)]
SOME = [Fraction(0), Fraction(1), Fraction(-1), Fraction(2), Fraction(-3, 5), Fraction(1, 7), Fraction(99, 4)]


class Turned(unittest.TestCase):
    def test_known_ones(self):
        self.assertEqual(turned(0, (5, 3)), number(2))
        self.assertEqual(turned(1, (5, 3)), X)
        self.assertEqual(turned(2, (5, 3)), ((-10, 0, 3), 3))
        self.assertEqual(turned(3, (5, 3)), ((0, -5, 0, 1), 1))
        self.assertEqual(turned(4, (1, 1)), ((2, 0, -4, 0, 1), 1))
        self.assertEqual(turned(5, (-1, 1)), ((0, 5, 0, 5, 0, 1), 1))
        self.assertEqual(turned(6, (1, 2)), ((-1, 0, 9, 0, -12, 0, 4), 4))

    def test_each_degree(self):
        for r in SOME + GREAT:
            for n in range(13):
                self.assertEqual(turned(n, pair(r)), angles(n, r))

    def test_the_steps(self):
        for r in SOME + GREAT:
            for n in range(11):
                low, middle, high = [listed(turned(n + k, pair(r))) for k in range(3)]
                due = sum_of([Fraction(0)] + middle, product_of([-r], low))
                self.assertEqual(high, due)

    def test_two_that_come_to_the_number_multiplied(self):
        # Of y + A / y it is y ** n + (A / y) ** n, whatever y.
        for r in SOME + GREAT[:2]:
            for n in range(13):
                told = listed(turned(n, pair(r)))
                for y in (Fraction(1), Fraction(-2), Fraction(3, 7)):
                    self.assertEqual(value_at(told, y + r / y), y ** n + (r / y) ** n)

    def test_one_of_another(self):
        for r in SOME + GREAT[:1]:
            for m in range(1, 13):
                for n in range(1, 12 // m + 1):
                    made = put(turned(m, pair(r ** n)), turned(n, pair(r)))
                    self.assertEqual(made, turned(m * n, pair(r)))

    def test_by_nought(self):
        self.assertEqual(turned(0, (0, 1)), number(2))
        for n in range(1, 13):
            self.assertEqual(turned(n, (0, 1)), letter_to(n))

    def test_somewhat_beyond(self):
        for n in (13, 20, 24):
            self.assertEqual(turned(n, (-3, 5)), angles(n, Fraction(-3, 5)))

    def test_asked_again_the_same(self):
        for n in (0, 1, 2, 7):
            self.assertEqual(turned(n, (2, 3)), turned(n, (2, 3)))
        self.assertEqual(turned(7, (2, 3)), poly_of(listed(angles(7, Fraction(2, 3)))))


if __name__ == "__main__":
    unittest.main()
