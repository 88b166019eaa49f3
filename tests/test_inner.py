import unittest
from fractions import Fraction

from nestwright.inner import candidate, digits
from nestwright.puts import put
from tests.oracles import (
    FORTY, NOUGHT, OTHER_FORTY, X, at, degree_of, digits_sum, great_poly, is_neat_layer, letter_to, line, listed,
    nested, number, poly_of, power_of, product_of, scaled_power, some_polys,
)

SAMPLES = some_polys(61, 40, 1, 12) + [great_poly(seed, seed) for seed in (1, 6, 11, 12)]


def parts_of(n):
    return [s for s in range(1, n + 1) if n % s == 0]


class Candidate(unittest.TestCase):
    def assert_candidate(self, f, s):
        h, n = candidate(f, s), degree_of(f)
        self.assertEqual(degree_of(h), s)
        self.assertTrue(is_neat_layer(h), (f, s))
        made = scaled_power(h, n // s, at(f, n))
        for k in range(n - s + 1, n + 1):
            self.assertEqual(at(made, k), at(f, k), (f, s, k))
        self.assertEqual(h, poly_of(listed(h)))

    def test_known_ones(self):
        self.assertEqual(candidate(letter_to(6), 2), letter_to(2))
        self.assertEqual(candidate(((0, 0, 1, 2, 1), 1), 2), ((0, 1, 1), 1))
        self.assertEqual(candidate(((9, 9, 9, 4, 1), 1), 2), ((0, 2, 1), 1))
        self.assertEqual(candidate(((5, 7, 0, 3), 1), 3), ((0, 7, 0, 3), 3))
        self.assertEqual(candidate(((1, 1, 1, 1, 1, 1, 2), 1), 3), ((0, 7, 8, 32), 32))

    def test_for_one_it_is_x(self):
        for f in SAMPLES:
            self.assertEqual(candidate(f, 1), X)

    def test_for_the_degree_it_is_f_by_its_lead(self):
        for f in SAMPLES:
            some = [r / listed(f)[-1] for r in listed(f)]
            self.assertEqual(candidate(f, degree_of(f)), poly_of([0] + some[1:]))

    def test_each_divisor(self):
        self.assertEqual({degree_of(f) for f in SAMPLES}, set(range(1, 13)))
        for f in SAMPLES:
            for s in parts_of(degree_of(f)):
                self.assert_candidate(f, s)

    def test_every_place_and_leads_that_are_not_one(self):
        for n in (4, 6, 8, 9, 10, 12):
            for lead in (1, -1, 2, -6, Fraction(-5, 7), Fraction(12, 35)):
                f = poly_of([Fraction(k * k - 7, k % 3 + 1) for k in range(n)] + [lead])
                for s in parts_of(n):
                    self.assert_candidate(f, s)

    def test_the_inner_one_of_what_was_put_together(self):
        for seed, h in enumerate(some_polys(62, 12, 2, 4)):
            some = [r / listed(h)[-1] for r in listed(h)]
            h = poly_of([0] + some[1:])
            for g in some_polys(seed, 6, 1, 3):
                self.assertEqual(candidate(nested(g, h), degree_of(h)), h)

    def test_the_lesser_powers_do_not_matter(self):
        for f in some_polys(63, 12, 6, 12):
            n = degree_of(f)
            for s in parts_of(n):
                some = listed(f)
                some[:n - s + 1] = [Fraction(1, 5)] * (n - s + 1)
                self.assertEqual(candidate(poly_of(some), s), candidate(f, s))

    def test_forty_figures(self):
        for n in (4, 6, 8, 9, 10, 12):
            for s in parts_of(n):
                self.assert_candidate(great_poly(n, n), s)

    def test_what_was_told_is_handed_on(self):
        f = put(great_poly(64, 4), great_poly(65, 6))
        for s in parts_of(24):
            self.assert_candidate(f, s)

    def test_asked_again_the_same_and_nothing_changed(self):
        f = ((5, 7, 0, 3, -2), 6)
        self.assertEqual(candidate(f, 2), candidate(f, 2))
        self.assertEqual(f, ((5, 7, 0, 3, -2), 6))


class Digits(unittest.TestCase):
    def assert_digits(self, f, h):
        told = digits(f, h)
        self.assertIs(type(told), tuple)
        self.assertEqual(digits_sum(told, h), f, (f, h))
        self.assertTrue(all(degree_of(part) < degree_of(h) for part in told), (f, h))
        self.assertNotEqual(told[-1], NOUGHT, (f, h))
        self.assertEqual(len(told), degree_of(f) // degree_of(h) + 1)
        for part in told:
            self.assertEqual(part, poly_of(listed(part)))

    def test_known_ones(self):
        self.assertEqual(digits(((1, 2, 3, 4, 5), 1), letter_to(2)), (((1, 2), 1), ((3, 4), 1), number(5)))
        self.assertEqual(digits(((0, 0, 1), 1), ((1, 1), 1)), (number(1), number(-2), number(1)))
        self.assertEqual(digits(letter_to(3), ((0, 1, 2), 1)), (((0, 1), 4), ((-1, 2), 4)))
        self.assertEqual(digits(letter_to(4), ((1, 0, 1), 1)), (number(1), number(-2), number(1)))
        self.assertEqual(digits(letter_to(1), ((0, -2), 3)), (NOUGHT, number(-3, 2)))

    def test_f_of_lesser_degree_is_told_alone(self):
        for f in (((1, 2, 3), 4), X, number(5), number(-2, 3)):
            self.assertEqual(digits(f, ((1, 2, 0, 5), 6)), (f,))

    def test_f_being_nought(self):
        for h in (X, ((1, 2, 0, 5), 6)):
            self.assertEqual(digits(NOUGHT, h), (NOUGHT,))

    def test_f_of_the_same_degree(self):
        for f in some_polys(71, 20, 1, 6):
            for h in some_polys(72, 20, degree_of(f), degree_of(f)):
                self.assert_digits(f, h)
                self.assertEqual(digits(f, h)[1], number(at(f, degree_of(f)) / at(h, degree_of(h))))

    def test_powers_of_h(self):
        for h in some_polys(73, 12, 1, 3):
            for k in range(1, 5):
                f = poly_of(power_of(listed(h), k))
                self.assertEqual(digits(f, h), (NOUGHT,) * k + (number(1),))
                g = poly_of(product_of(listed(f), [Fraction(-2, 7)]))
                self.assertEqual(digits(g, h), (NOUGHT,) * k + (number(-2, 7),))

    def test_h_of_degree_one(self):
        for f in SAMPLES:
            for h in (X, line(1, 1), line(-2, 3), line(Fraction(3, 4), Fraction(-5, 6)), line(FORTY, OTHER_FORTY)):
                self.assert_digits(f, h)

    def test_samples(self):
        for f in SAMPLES:
            for h in some_polys(74, 12, 1, 7):
                if degree_of(h) <= degree_of(f):
                    self.assert_digits(f, h)
                else:
                    self.assertEqual(digits(f, h), (f,))

    def test_leads_of_h(self):
        for lead in (1, -1, 2, -12, Fraction(-3, 8), Fraction(FORTY, 9)):
            for h in (poly_of([5, Fraction(1, 6), lead]), poly_of([0, 0, Fraction(1, 4), lead]), poly_of([1, 0, lead])):
                for f in some_polys(75, 8, 3, 12):
                    self.assert_digits(f, h)

    def test_noughts_among_the_digits_stay(self):
        h = ((1, 0, 2), 3)
        parts = (NOUGHT, ((1, 5), 2), NOUGHT, NOUGHT, number(7))
        self.assertEqual(digits(digits_sum(parts, h), h), parts)

    def test_forty_figures(self):
        for n in (5, 12):
            for s in range(1, n + 1):
                self.assert_digits(great_poly(n, n), great_poly(s + 20, s))

    def test_by_the_candidate_and_what_was_told_is_handed_on(self):
        for f in SAMPLES + [put(great_poly(64, 4), great_poly(65, 6))]:
            for s in parts_of(degree_of(f)):
                self.assert_digits(f, candidate(f, s))

    def test_asked_again_the_same_and_nothing_changed(self):
        f, h = ((5, 7, 0, 3), 6), ((1, 2), 3)
        self.assertEqual(digits(f, h), digits(f, h))
        self.assertEqual((f, h), (((5, 7, 0, 3), 6), ((1, 2), 3)))


if __name__ == "__main__":
    unittest.main()
