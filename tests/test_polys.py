import unittest
from fractions import Fraction
from math import gcd

from nestwright.polys import degree, fraction_at, lead, minus, plus, poly, power, scaled, times, value
from tests import oracles
from tests.oracles import FORTY, NOUGHT, OTHER_FORTY, X, listed, number, pair, pairs, some_fractions, some_lists

SAMPLES = some_lists(3, 25, 6) + some_lists(4, 4, 12, 40) + [[], [Fraction(1)], [Fraction(0), Fraction(1)]]


def made(some):
    return poly([pair(r) for r in some])


class Form(unittest.TestCase):
    def assert_one_form(self, p):
        tops, bottom = p
        self.assertIs(type(p), tuple)
        self.assertIs(type(tops), tuple)
        self.assertTrue(all(type(part) is int for part in tops + (bottom,)))
        self.assertGreaterEqual(bottom, 1)
        self.assertTrue(not tops or tops[-1] != 0)
        self.assertEqual(gcd(bottom, *tops), 1)

    def test_ordinary_ones(self):
        self.assertEqual(poly(pairs(1, 2, 3)), ((1, 2, 3), 1))
        self.assertEqual(poly([(1, 2), (1, 3)]), ((3, 2), 6))
        self.assertEqual(poly([(-1, 2), (0, 1), (3, 4)]), ((-2, 0, 3), 4))
        self.assertEqual(poly([(2, 1), (4, 3)]), ((6, 4), 3))
        self.assertEqual(poly([(0, 1), (1, 1)]), X)

    def test_none_handed_in(self):
        self.assertEqual(poly([]), NOUGHT)
        self.assertEqual(poly(()), NOUGHT)

    def test_noughts_at_the_end_go(self):
        self.assertEqual(poly([(0, 1)]), NOUGHT)
        self.assertEqual(poly([(0, 1)] * 5), NOUGHT)
        self.assertEqual(poly([(1, 2), (0, 1), (0, 1)]), ((1,), 2))

    def test_noughts_among_them_stay(self):
        self.assertEqual(poly([(0, 1), (0, 1), (1, 3), (0, 1), (2, 1)]), ((0, 0, 1, 0, 6), 3))

    def test_a_list_and_a_tuple_alike(self):
        for some in SAMPLES:
            fractions = [pair(r) for r in some]
            self.assertEqual(poly(fractions), poly(tuple(fractions)))

    def test_the_list_stays_as_it_was(self):
        some = [(1, 2), (2, 3), (0, 1), (0, 1)]
        told = poly(some)
        self.assertEqual(some, [(1, 2), (2, 3), (0, 1), (0, 1)])
        some.append((9, 1))
        some[0] = (5, 1)
        self.assertEqual(told, ((3, 4), 6))

    def test_the_bottom_has_no_part_common_with_all_tops(self):
        self.assertEqual(poly([(1, 6), (1, 4)]), ((2, 3), 12))
        self.assertEqual(poly([(2, 3), (4, 3)]), ((2, 4), 3))
        self.assertEqual(plus(((1,), 2), ((1,), 2)), ((1,), 1))
        self.assertEqual(times(((2, 4), 3), ((3,), 2)), ((1, 2), 1))

    def test_forty_figures(self):
        some = [Fraction(FORTY, OTHER_FORTY), Fraction(-OTHER_FORTY, FORTY), Fraction(FORTY)]
        self.assertEqual(listed(made(some)), some)
        self.assert_one_form(made(some))

    def test_samples_are_read_back_and_in_form(self):
        for some in SAMPLES:
            self.assertEqual(listed(made(some)), some)
            self.assert_one_form(made(some))

    def test_what_deeds_tell_is_in_form(self):
        for one, other in zip(SAMPLES, SAMPLES[1:]):
            p, q = made(one), made(other)
            for told in (plus(p, q), minus(p, q), times(p, q), scaled(p, (-5, 6)), power(p, 2)):
                self.assert_one_form(told)


class Asking(unittest.TestCase):
    def test_the_polynomial_nought(self):
        self.assertEqual(degree(NOUGHT), -1)
        self.assertEqual(lead(NOUGHT), (0, 1))
        self.assertEqual(fraction_at(NOUGHT, 0), (0, 1))
        self.assertEqual(fraction_at(NOUGHT, 5), (0, 1))

    def test_degree_and_lead(self):
        self.assertEqual(degree(number(5)), 0)
        self.assertEqual(lead(number(5)), (5, 1))
        self.assertEqual(degree(((2, 0, 3), 4)), 2)
        self.assertEqual(lead(((3, 0, 2), 4)), (1, 2))
        self.assertEqual(lead(((1, -6), 4)), (-3, 2))

    def test_a_fraction_at_each_place(self):
        p = ((6, 0, -3), 4)
        self.assertEqual([fraction_at(p, k) for k in range(3)], [(3, 2), (0, 1), (-3, 4)])

    def test_beyond_the_degree(self):
        p = ((6, 0, -3), 4)
        for k in (3, 4, 25, 1000):
            self.assertEqual(fraction_at(p, k), (0, 1))

    def test_samples(self):
        for some in SAMPLES:
            p = made(some)
            self.assertEqual(degree(p), len(some) - 1)
            self.assertEqual(lead(p), pair(some[-1] if some else 0))
            for k, r in enumerate(some):
                self.assertEqual(fraction_at(p, k), pair(r))


class Deeds(unittest.TestCase):
    def test_sums_and_differences(self):
        for one in SAMPLES:
            for other in SAMPLES:
                p, q = made(one), made(other)
                less = [-r for r in other]
                self.assertEqual(plus(p, q), made(oracles.sum_of(one, other)))
                self.assertEqual(minus(p, q), made(oracles.sum_of(one, less)))

    def test_leads_that_fall_away(self):
        p, q = ((1, 2, 3), 4), ((1, 1, -3), 4)
        self.assertEqual(plus(p, q), ((2, 3), 4))
        self.assertEqual(minus(p, ((1, 1, 3), 4)), ((0, 1), 4))
        self.assertEqual(minus(p, ((3, 4, 6), 8)), ((-1,), 8))

    def test_all_falls_away(self):
        for some in SAMPLES:
            p = made(some)
            self.assertEqual(minus(p, p), NOUGHT)
            self.assertEqual(plus(p, scaled(p, (-1, 1))), NOUGHT)

    def test_sums_with_nought(self):
        p = ((1, 2, 3), 4)
        self.assertEqual(plus(p, NOUGHT), p)
        self.assertEqual(plus(NOUGHT, p), p)
        self.assertEqual(minus(p, NOUGHT), p)
        self.assertEqual(minus(NOUGHT, p), ((-1, -2, -3), 4))

    def test_products(self):
        self.assertEqual(times(((1, 1), 1), ((-1, 1), 1)), ((-1, 0, 1), 1))
        for one in SAMPLES:
            for other in SAMPLES:
                self.assertEqual(times(made(one), made(other)), made(oracles.product_of(one, other)))

    def test_products_with_nought_and_one(self):
        p = ((1, 2, 3), 4)
        self.assertEqual(times(p, NOUGHT), NOUGHT)
        self.assertEqual(times(NOUGHT, p), NOUGHT)
        self.assertEqual(times(NOUGHT, NOUGHT), NOUGHT)
        self.assertEqual(times(p, number(1)), p)

    def test_scaled(self):
        self.assertEqual(scaled(((1, 2), 3), (3, 2)), ((1, 2), 2))
        self.assertEqual(scaled(((1, 2), 3), (0, 1)), NOUGHT)
        self.assertEqual(scaled(NOUGHT, (5, 7)), NOUGHT)
        for some in SAMPLES:
            for r in some_fractions(5, 6):
                self.assertEqual(scaled(made(some), pair(r)), made([r * part for part in some] if r else []))

    def test_powers(self):
        self.assertEqual(power(((1, 1), 1), 4), ((1, 4, 6, 4, 1), 1))
        self.assertEqual(power(((1, 1), 2), 3), ((1, 3, 3, 1), 8))
        for some in SAMPLES[:8]:
            for k in range(5):
                self.assertEqual(power(made(some), k), made(oracles.power_of(some, k)))

    def test_power_by_nought_and_one(self):
        for some in SAMPLES:
            self.assertEqual(power(made(some), 0), number(1))
            self.assertEqual(power(made(some), 1), made(some))
        self.assertEqual(power(NOUGHT, 3), NOUGHT)

    def test_power_24(self):
        p = ((FORTY, OTHER_FORTY), FORTY - 1)
        self.assertEqual(listed(power(p, 24)), oracles.power_of(listed(p), 24))

    def test_value(self):
        self.assertEqual(value(((1, 2, 3), 4), (1, 2)), (11, 16))
        self.assertEqual(value(((0, 0, 1), 1), (-2, 3)), (4, 9))
        for some in SAMPLES:
            for r in some_fractions(6, 8) + some_fractions(7, 2, 40):
                self.assertEqual(value(made(some), pair(r)), pair(oracles.value_at(some, r)))

    def test_value_at_nought_is_the_fraction_at_nought(self):
        for some in SAMPLES:
            self.assertEqual(value(made(some), (0, 1)), fraction_at(made(some), 0))

    def test_value_of_nought_and_numbers(self):
        for r in ((0, 1), (1, 1), (-5, 7)):
            self.assertEqual(value(NOUGHT, r), (0, 1))
            self.assertEqual(value(number(-3, 4), r), (-3, 4))

    def test_what_was_told_is_handed_on(self):
        p = power(((FORTY, OTHER_FORTY), FORTY - 1), 12)
        self.assertEqual(times(p, p), power(((FORTY, OTHER_FORTY), FORTY - 1), 24))

    def test_asked_again_the_same_and_nothing_changed(self):
        p, q = ((6, 0, -3), 4), ((1, 5), 6)
        for deed in (plus, minus, times):
            self.assertEqual(deed(p, q), deed(p, q))
        self.assertEqual(power(p, 3), power(p, 3))
        self.assertEqual(value(p, (2, 3)), value(p, (2, 3)))
        self.assertEqual((p, q), (((6, 0, -3), 4), ((1, 5), 6)))


if __name__ == "__main__":
    unittest.main()
