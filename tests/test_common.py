import unittest
from fractions import Fraction
from math import gcd

from nestwright.apart import apart, inner_degrees, inner_one
from nestwright.common import common_inner
from nestwright.puts import put
from tests.oracles import (
    X, angles, changed, degree_of, great_poly, is_neat_layer, letter_to, line, nested, some_polys,
)

LINES = [X, line(-1, 0), line(3, 1), line(Fraction(-2, 7), Fraction(5, 3)), great_poly(1, 1)]


class Common(unittest.TestCase):
    def assert_common(self, f, g):
        told = common_inner(f, g)
        self.assertIs(type(told), tuple)
        h, p, q = told
        self.assertTrue(is_neat_layer(h), (f, g))
        self.assertEqual(nested(p, h), f)
        self.assertEqual(nested(q, h), g)
        s = degree_of(h)
        self.assertEqual((inner_one(f, s), inner_one(g, s)), (h, h))
        for t in range(1, gcd(degree_of(f), degree_of(g)) + 1):
            if t in inner_degrees(f) and t in inner_degrees(g) and inner_one(f, t) == inner_one(g, t):
                self.assertLessEqual(t, s)
                self.assertEqual(apart(h, t)[0], "made")
                self.assertEqual(inner_one(h, t), inner_one(f, t))
        return h

    def test_known_ones(self):
        self.assertEqual(common_inner(letter_to(6), letter_to(4)), (letter_to(2), letter_to(3), letter_to(2)))
        f, g = ((1, 0, 2, 0, 1), 1), ((0, 0, 0, 0, 0, 0, 1), 2)
        self.assertEqual(common_inner(f, g), (letter_to(2), ((1, 2, 1), 1), ((0, 0, 0, 1), 2)))
        self.assertEqual(common_inner(((0, 1, 1), 1), letter_to(2)), (X, ((0, 1, 1), 1), letter_to(2)))

    def test_of_one_inner_one(self):
        for h in some_polys(161, 6, 2, 3):
            for p in some_polys(162, 3, 1, 4):
                for q in some_polys(163, 3, 1, 4):
                    told = self.assert_common(nested(p, h), nested(q, h))
                    self.assertGreaterEqual(degree_of(told), degree_of(h))
                    self.assertEqual(degree_of(told) % degree_of(h), 0)

    def test_the_same_one_twice(self):
        for f in some_polys(164, 20, 1, 12) + [great_poly(2, 12)]:
            h, p, q = common_inner(f, f)
            self.assertEqual((degree_of(h), degree_of(p)), (degree_of(f), 1))
            self.assertEqual(p, q)
            self.assert_common(f, f)

    def test_the_same_one_with_straight_ones_outside(self):
        for f in some_polys(165, 8, 1, 12):
            for l in LINES:
                self.assertEqual(degree_of(self.assert_common(f, nested(l, f))), degree_of(f))

    def test_the_letter_alone(self):
        for f in some_polys(166, 8, 2, 6):
            for g in some_polys(167, 8, 2, 6):
                self.assert_common(f, g)
        self.assertEqual(self.assert_common(letter_to(4), nested(letter_to(4), line(1, 1))), X)
        self.assertEqual(self.assert_common(letter_to(5), letter_to(7)), X)
        self.assertEqual(self.assert_common(((0, 1, 0, 0, 1), 1), letter_to(4)), X)

    def test_of_degree_one(self):
        for l in LINES:
            for f in LINES + some_polys(168, 6, 1, 12):
                self.assertEqual(common_inner(l, f), (X, l, f))
                self.assertEqual(common_inner(f, l), (X, f, l))

    def test_powers_of_the_letter(self):
        for m in range(1, 13):
            for k in range(1, 13):
                s = gcd(m, k)
                due = (letter_to(s), letter_to(m // s), letter_to(k // s))
                self.assertEqual(common_inner(letter_to(m), letter_to(k)), due)

    def test_turned_angles(self):
        for r in (1, Fraction(-3, 2), 5):
            for m in range(1, 13):
                for k in range(1, 13):
                    self.assertEqual(degree_of(self.assert_common(angles(m, r), angles(k, r))), gcd(m, k))

    def test_turned_angles_by_others(self):
        for m, k in ((4, 6), (12, 8), (6, 9), (12, 12)):
            h = self.assert_common(angles(m, 1), angles(k, 2))
            self.assertEqual(degree_of(h), 2 if m % 2 == 0 and k % 2 == 0 else 1)

    def test_a_greater_one_that_has_a_lesser_one_within(self):
        f, g = nested(((0, 1, 1), 1), letter_to(6)), nested(((5, 0, 1, 2), 3), letter_to(4))
        self.assertEqual(self.assert_common(f, g), letter_to(2))
        self.assertEqual(self.assert_common(f, nested(((1, 1), 2), letter_to(6))), letter_to(6))

    def test_a_degree_common_to_both_with_unlike_inner_ones(self):
        f, g = letter_to(4), nested(letter_to(2), ((0, 1, 1), 1))
        self.assertEqual([inner_degrees(f), inner_degrees(g)], [[1, 2, 4], [1, 2, 4]])
        self.assertEqual(self.assert_common(f, g), X)
        self.assertEqual(self.assert_common(nested(f, letter_to(2)), nested(g, letter_to(2))), letter_to(2))

    def test_one_fraction_changed(self):
        f = nested(((1, 2, 3), 5), ((0, 1, 1, 4), 3))
        for k in range(1, 6):
            self.assertEqual(self.assert_common(f, changed(f, k)), X)
        self.assertEqual(degree_of(self.assert_common(f, changed(f, 0))), 6)

    def test_forty_figures_and_what_was_told(self):
        h, p, q = great_poly(3, 3), great_poly(4, 4), great_poly(5, 2)
        self.assertEqual(degree_of(self.assert_common(put(p, h), put(q, h))), 3)
        self.assertEqual(degree_of(self.assert_common(great_poly(6, 12), great_poly(7, 12))), 1)
        self.assertEqual(degree_of(self.assert_common(put(letter_to(12), h), put(letter_to(8), h))), 12)

    def test_asked_again_the_same_and_nothing_changed(self):
        f, g = ((1, 0, 2, 0, 1), 1), ((0, 0, 0, 0, 0, 0, 1), 2)
        self.assertEqual(common_inner(f, g), common_inner(f, g))
        self.assertEqual((f, g), (((1, 0, 2, 0, 1), 1), ((0, 0, 0, 0, 0, 0, 1), 2)))


if __name__ == "__main__":
    unittest.main()
