import unittest
from fractions import Fraction
from math import gcd, lcm

from nestwright.apart import apart, inner_degrees, inner_one
from nestwright.inner import candidate
from nestwright.puts import again, put
from tests.oracles import (
    NOUGHT, X, angles, at, degree_of, digits_sum, great_poly, is_neat_layer, letter_to, line, listed, nested, number,
    poly_of, some_polys, sum_of,
)

ANY = some_polys(81, 30, 1, 12)
TWO = [nested(g, h) for g in some_polys(82, 6, 2, 4) for h in some_polys(83, 5, 2, 3)]
THREE = [
    nested(g, h, p)
    for g in some_polys(84, 3, 2, 3) for h in some_polys(85, 3, 2, 2) for p in some_polys(86, 3, 2, 2)
]
GREAT = [great_poly(87, 12), nested(great_poly(88, 3), great_poly(89, 4)), nested(great_poly(90, 6), great_poly(91, 2))]
SAMPLES = ANY + TWO + THREE + GREAT + [letter_to(12), angles(12, 1), angles(12, Fraction(-2, 3)), angles(10, 5)]


def parts_of(n):
    return [s for s in range(1, n + 1) if n % s == 0]


def written_by(f, h):
    """The digits of f by h of lead 1, by taking off the greatest power of h again and again."""
    left, s = listed(f), degree_of(h)
    made = {}
    while left:
        i, m = divmod(len(left) - 1, s)
        part = poly_of([0] * m + [left[-1]])
        made[i] = sum_of(made.get(i, []), listed(part))
        less = digits_sum((NOUGHT,) * i + (part,), h)
        left = sum_of(left, [-r for r in listed(less)])
    return [poly_of(made.get(i, [])) for i in range(max(made) + 1)]


class Apart(unittest.TestCase):
    def assert_made(self, f, s):
        told = apart(f, s)
        self.assertIs(type(told), tuple)
        word, g, h = told
        self.assertEqual(word, "made", (f, s))
        self.assertEqual((degree_of(g), degree_of(h)), (degree_of(f) // s, s))
        self.assertTrue(is_neat_layer(h))
        self.assertEqual(nested(g, h), f)
        self.assertEqual(h, candidate(f, s))

    def assert_barred(self, f, s):
        told = apart(f, s)
        self.assertIs(type(told), tuple)
        word, h, i = told
        self.assertEqual((word, h), ("barred", candidate(f, s)), (f, s))
        self.assertIs(type(i), int)
        parts = written_by(f, h)
        self.assertTrue(all(degree_of(part) < 1 for part in parts[:i]), (f, s))
        self.assertGreaterEqual(degree_of(parts[i]), 1, (f, s))

    def test_known_ones(self):
        f = ((0, 0, 1, 0, 2, 0, 1), 1)
        self.assertEqual(apart(f, 1), ("made", f, X))
        self.assertEqual(apart(f, 2), ("made", ((0, 1, 2, 1), 1), letter_to(2)))
        self.assertEqual(apart(f, 3), ("made", letter_to(2), ((0, 1, 0, 1), 1)))
        self.assertEqual(apart(f, 6), ("made", X, f))
        self.assertEqual(apart(((3, 0, 4, 0, 2), 5), 2), ("made", ((3, 4, 2), 5), letter_to(2)))

    def test_known_bars(self):
        self.assertEqual(apart(((0, 1, 0, 0, 1), 1), 2), ("barred", letter_to(2), 0))
        self.assertEqual(apart(((0, 0, 0, 1, 0, 0, 1), 1), 2), ("barred", letter_to(2), 1))
        self.assertEqual(apart(((0, 1, 0, 1, 0, 0, 1), 1), 2), ("barred", letter_to(2), 0))
        self.assertEqual(apart(((0, 1, 0, 0, 0, 0, 1), 1), 3), ("barred", letter_to(3), 0))
        self.assertEqual(apart(((0, 0, 0, 0, 0, 5, 0, 0, 2), 1), 2), ("barred", letter_to(2), 2))

    def test_the_number_of_the_first_digit_that_bars(self):
        h = ((0, 2, 1), 1)
        for i in range(4):
            for later in (NOUGHT, X):
                parts = [number(k + 3) for k in range(5)] + [number(1)]
                parts[i] = ((1, 1), 1)
                if i < 3:
                    parts[3] = poly_of(sum_of(listed(parts[3]), listed(later)))
                self.assertEqual(apart(digits_sum(parts, h), 2), ("barred", h, i))

    def test_each_divisor_of_samples(self):
        for f in SAMPLES:
            for s in parts_of(degree_of(f)):
                if apart(f, s)[0] == "made":
                    self.assert_made(f, s)
                else:
                    self.assert_barred(f, s)

    def test_both_answers_are_among_the_samples(self):
        told = [apart(f, s)[0] for f in SAMPLES for s in parts_of(degree_of(f))[1:-1]]
        self.assertGreater(told.count("made"), 40)
        self.assertGreater(told.count("barred"), 40)

    def test_what_was_put_together_is_taken_apart(self):
        for g in some_polys(92, 8, 2, 4):
            for h in some_polys(93, 8, 2, 3):
                self.assert_made(nested(g, h), degree_of(h))

    def test_three_layers(self):
        for g in some_polys(94, 4, 2, 3):
            for h in some_polys(95, 4, 2, 2):
                for p in some_polys(96, 4, 2, 2):
                    self.assert_made(nested(g, h, p), degree_of(p))
                    self.assert_made(nested(g, h, p), degree_of(p) * degree_of(h))

    def test_by_one_and_by_the_degree(self):
        for f in SAMPLES:
            n = degree_of(f)
            some = [r / at(f, n) for r in listed(f)]
            self.assertEqual(apart(f, 1), ("made", f, X))
            self.assertEqual(apart(f, n), ("made", line(at(f, n), at(f, 0)), poly_of([0] + some[1:])))

    def test_one_fraction_changed(self):
        f = listed(nested(((1, 2, 3, 4), 5), ((0, 7, 0, 6), 1)))
        for k in (1, 2, 4, 5):
            other = list(f)
            other[k] += Fraction(1, 1000)
            self.assert_barred(poly_of(other), 3)

    def test_powers_of_the_letter(self):
        for n in range(1, 13):
            for s in parts_of(n):
                self.assertEqual(apart(letter_to(n), s), ("made", letter_to(n // s), letter_to(s)))

    def test_forty_figures(self):
        for g, h in ((2, 2), (2, 6), (6, 2), (3, 4), (4, 3), (2, 3), (5, 2)):
            f = nested(great_poly(g, g), great_poly(h + 10, h))
            self.assert_made(f, h)
            other = listed(f)
            other[1] += Fraction(1, 10 ** 40)
            self.assert_barred(poly_of(other), h)

    def test_what_was_told_is_handed_on(self):
        f = put(put(great_poly(1, 3), great_poly(2, 2)), great_poly(3, 4))
        for s in parts_of(24):
            if s in (1, 4, 8, 24):
                self.assert_made(f, s)
            else:
                self.assert_barred(f, s)
        f = again(((1, -3, 2), 5), 4)
        self.assertEqual(inner_degrees(f), [1, 2, 4, 8, 16])

    def test_asked_again_the_same_and_nothing_changed(self):
        f = ((0, 0, 1, 0, 2, 0, 1), 1)
        self.assertEqual(apart(f, 2), apart(f, 2))
        self.assertEqual(f, ((0, 0, 1, 0, 2, 0, 1), 1))


class InnerDegrees(unittest.TestCase):
    def test_known_ones(self):
        self.assertEqual(inner_degrees(letter_to(12)), [1, 2, 3, 4, 6, 12])
        self.assertEqual(inner_degrees(angles(12, 3)), [1, 2, 3, 4, 6, 12])
        self.assertEqual(inner_degrees(((0, 1, 0, 0, 1), 1)), [1, 4])
        self.assertEqual(inner_degrees(((0, 0, 1, 0, 2, 0, 1), 1)), [1, 2, 3, 6])
        self.assertEqual(inner_degrees(letter_to(7)), [1, 7])

    def test_degree_one(self):
        for l in (X, line(-2, 5), line(Fraction(1, 3), 0)):
            self.assertEqual(inner_degrees(l), [1])

    def test_samples_are_those_that_are_made(self):
        for f in SAMPLES:
            n = degree_of(f)
            told = inner_degrees(f)
            self.assertEqual(told, [s for s in parts_of(n) if apart(f, s)[0] == "made"])
            self.assertEqual((told[0], told[-1]), (1, n))

    def test_with_two_their_common_divisor_and_multiple(self):
        for f in SAMPLES:
            told = inner_degrees(f)
            for s in told:
                for t in told:
                    self.assertIn(gcd(s, t), told)
                    self.assertIn(lcm(s, t), told)

    def test_straight_ones_outside_and_within_change_nothing(self):
        for f in TWO[:10] + ANY[:10]:
            self.assertEqual(inner_degrees(nested(line(-3, 7), f, line(Fraction(2, 5), 1))), inner_degrees(f))

    def test_the_list_is_the_askers_own(self):
        first = inner_degrees(letter_to(6))
        first.append(99)
        first[0] = 0
        self.assertEqual(inner_degrees(letter_to(6)), [1, 2, 3, 6])


class InnerOne(unittest.TestCase):
    def test_it_is_the_inner_one(self):
        for f in SAMPLES:
            for s in inner_degrees(f):
                self.assertEqual(inner_one(f, s), apart(f, s)[2])

    def test_one_is_taken_apart_by_another_just_where_its_degree_is_a_multiple(self):
        for f in TWO + THREE + [letter_to(12), angles(12, 2)]:
            told = inner_degrees(f)
            for s in told:
                within = inner_degrees(inner_one(f, s))
                self.assertEqual(within, [t for t in told if s % t == 0])
                for t in within:
                    self.assertEqual(inner_one(inner_one(f, s), t), inner_one(f, t))

    def test_what_has_digits_of_degree_nought_alone(self):
        h = ((0, 3, 0, 2), 2)
        parts = [number(1, 3), NOUGHT, number(-5), number(7, 2)]
        f = digits_sum(parts, h)
        self.assertEqual(inner_degrees(f), [1, 3, 9])
        self.assertEqual(inner_one(f, 3), h)


if __name__ == "__main__":
    unittest.main()
