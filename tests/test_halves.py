import unittest
from fractions import Fraction

from nestwright.halves import again_roots
from nestwright.puts import again
from tests.oracles import (
    X, angles, at, changed, degree_of, great_poly, letter_to, line, line_back, listed, nested, poly_of, some_polys,
)

TIMES = [(2, 2), (2, 3), (2, 4), (3, 2), (4, 2)]
LINES = [X, line(-1, 0), line(3, 1), line(Fraction(-2, 7), Fraction(5, 3))]


def put_in(h, k):
    return nested(*[h] * k)


def samples(seed, many=10):
    """Polynomials and how many times they are put into themselves, to degree 16."""
    return [(h, k) for s, k in TIMES for h in some_polys(seed + s + k, many, s, s)]


def turned_about(h):
    """The one that, turned about h's middle, h comes to, or None where h isn't the same there."""
    n = degree_of(h)
    middle = -at(h, n - 1) / (n * at(h, n))
    turn = line(-1, 2 * middle)
    return nested(turn, h) if nested(turn, h) == nested(h, turn) else None


def cube_root(r):
    """The fraction whose third power is r, or None."""
    def whole(n):
        k = round(abs(n) ** (1 / 3))
        return [s * (1 if n >= 0 else -1) for s in (k - 1, k, k + 1) if s ** 3 == abs(n)]
    top, bottom = whole(r.numerator), whole(r.denominator)
    return Fraction(top[0], bottom[0]) if top and bottom else None


def halves_of_four(f):
    """All that, put into themselves twice, make f of degree 4, by its fractions one by one."""
    a = cube_root(at(f, 4))
    if a is None:
        return []
    b = at(f, 3) / (2 * a * a)
    c = (at(f, 2) - a * b * b - a * b) / (2 * a * a)
    h = poly_of([c, b, a])
    return [h] if put_in(h, 2) == f else []


class AgainRoots(unittest.TestCase):
    def assert_told(self, f, k, due):
        told = again_roots(f, k)
        self.assertIs(type(told), list)
        self.assertEqual(told, sorted(due, key=lambda h: at(h, degree_of(h))), (f, k))
        for h in told:
            self.assertEqual(put_in(h, k), f)

    def test_known_ones(self):
        self.assertEqual(again_roots(letter_to(4), 2), [letter_to(2)])
        self.assertEqual(again_roots(letter_to(16), 2), [letter_to(4)])
        self.assertEqual(again_roots(letter_to(16), 4), [letter_to(2)])
        self.assertEqual(again_roots(letter_to(8), 3), [letter_to(2)])
        self.assertEqual(again_roots(letter_to(9), 2), [((0, 0, 0, -1), 1), letter_to(3)])
        self.assertEqual(again_roots(((2, 0, 2, 0, 1), 1), 2), [((1, 0, 1), 1)])
        self.assertEqual(again_roots(((0, 0, 0, 0, 8), 1), 2), [((0, 0, 2), 1)])
        self.assertEqual(again_roots(((0, 0, 0, 0, -8), 1), 2), [((0, 0, -2), 1)])
        self.assertEqual(again_roots(((0, 0, 0, 0, 2), 1), 2), [])

    def test_each_is_found(self):
        for h, k in samples(191):
            other = turned_about(h) if degree_of(h) == 3 else None
            self.assert_told(put_in(h, k), k, [h] if other is None else [h, other])

    def test_the_one_turned_about_its_middle(self):
        both = 0
        for odd in (((0, 1, 0, 1), 1), ((0, -5, 0, 2), 3), ((0, 0, 0, -1), 7), ((0, 3, 0, 1), 1)):
            for l in LINES:
                h = nested(line_back(l), odd, l)
                other = turned_about(h)
                self.assertNotEqual(other, h)
                self.assertEqual(put_in(other, 2), put_in(h, 2))
                self.assert_told(put_in(h, 2), 2, [h, other])
                self.assertLess(*[at(one, 3) for one in again_roots(put_in(h, 2), 2)])
                both += 1
        self.assertEqual(both, 16)

    def test_the_one_turned_about_is_another(self):
        for h in (((1, 0, 0, 1), 1), ((0, 1, 1, 1), 1), ((5, -2, 0, 3), 4)):
            self.assertIsNone(turned_about(h))
            self.assert_told(put_in(h, 2), 2, [h])
            self.assert_told(put_in(nested(line(-1, 0), h), 2), 2, [nested(line(-1, 0), h)])

    def test_straight_ones_about(self):
        for h, k in samples(192, 2):
            for l in LINES:
                moved = nested(line_back(l), h, l)
                self.assertIn(moved, again_roots(nested(line_back(l), put_in(h, k), l), k))

    def test_turned_angles(self):
        for s, k in TIMES:
            f = angles(s ** k, 1)
            other = [nested(line(-1, 0), angles(s, 1))] if s == 3 else []
            self.assert_told(f, k, [angles(s, 1)] + other)
        self.assert_told(angles(4, 2), 2, [])
        self.assert_told(angles(9, 2), 2, [])

    def test_one_number_otherwise(self):
        for h, k in samples(193, 3):
            f = put_in(h, k)
            for place in range(degree_of(f)):
                self.assert_told(changed(f, place), k, [])
                self.assert_told(changed(f, place, Fraction(1, 10 ** 30)), k, [])

    def test_another_lead(self):
        for h, k in samples(194, 3):
            f = put_in(h, k)
            self.assert_told(changed(f, degree_of(f), at(f, degree_of(f))), k, [])

    def test_all_of_degree_four(self):
        for f in some_polys(195, 60, 4, 4, 1):
            self.assert_told(f, 2, halves_of_four(f))
        for h in some_polys(196, 30, 2, 2, 1):
            for f in (put_in(h, 2), changed(put_in(h, 2), 1), changed(put_in(h, 2), 3)):
                self.assert_told(f, 2, halves_of_four(f))
            self.assertEqual(halves_of_four(put_in(h, 2)), [h])

    def test_samples_that_are_none(self):
        for s, k in TIMES:
            for f in some_polys(197, 10, s ** k, s ** k):
                for h in again_roots(f, k):
                    self.assertEqual(put_in(h, k), f)
            some = listed(letter_to(s ** k))
            some[1] = Fraction(1)
            self.assert_told(poly_of(some), k, [])

    def test_taken_apart_but_not_into_like_ones(self):
        self.assert_told(nested(((0, 0, 1), 1), ((1, 0, 1), 1)), 2, [])
        self.assert_told(nested(((0, 1, 1), 1), letter_to(2)), 2, [])
        self.assert_told(nested(letter_to(3), ((0, 1, 0, 1), 1)), 2, [])
        self.assert_told(nested(letter_to(2), ((3, 0, 1), 1), letter_to(2)), 3, [])

    def test_degrees_that_are_no_such_power(self):
        for k in (2, 3, 4):
            for n in range(2, 17):
                if n not in [s ** k for s in (2, 3, 4)]:
                    for f in (letter_to(n), angles(n, 1), great_poly(n, n)):
                        self.assertEqual(again_roots(f, k), [])

    def test_put_in_more_often(self):
        for h in some_polys(198, 5, 2, 2):
            f = put_in(h, 4)
            self.assertEqual(again_roots(f, 4), [h])
            self.assertEqual(again_roots(f, 2), [put_in(h, 2)])
            self.assertEqual(again_roots(again_roots(f, 2)[0], 2), [h])

    def test_forty_figures(self):
        for s, k in TIMES:
            h = great_poly(s + 20, s)
            self.assert_told(put_in(h, k), k, [h])
            self.assertEqual(again_roots(great_poly(k, s ** k), k), [])
        h = nested(line_back(great_poly(1, 1)), ((0, 3, 0, 5), 7), great_poly(1, 1))
        self.assert_told(put_in(h, 2), 2, [h, turned_about(h)])

    def test_somewhat_beyond(self):
        for h, k in ((((1, 2, 3, 4, 5, 6), 7), 2), (((1, 2, 0, 3), 2), 3)):
            self.assertEqual(again_roots(again(h, k), k), [h])
        self.assert_told(letter_to(25), 2, [((0,) * 5 + (-1,), 1), letter_to(5)])

    def test_the_list_is_the_askers_own(self):
        for f, k in ((letter_to(9), 2), (letter_to(4), 2), (letter_to(5), 2)):
            told = again_roots(f, k)
            kept = list(told)
            told.append(X)
            told[0] = X
            self.assertEqual(again_roots(f, k), kept)

    def test_asked_again_the_same_and_nothing_changed(self):
        f = ((2, 0, 2, 0, 1), 1)
        self.assertEqual(again_roots(f, 2), again_roots(f, 2))
        self.assertEqual(f, ((2, 0, 2, 0, 1), 1))


if __name__ == "__main__":
    unittest.main()
