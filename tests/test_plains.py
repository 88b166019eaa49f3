import unittest
from fractions import Fraction

from nestwright.plains import alike, leaves, plain
from nestwright.puts import put
from tests.oracles import (
    X, angles, at, degree_of, great_poly, letter_to, line, listed, nested, poly_of, some_fractions, some_polys,
)

SAMPLES = some_polys(41, 40, 2, 12) + [great_poly(seed, seed) for seed in (2, 3, 7, 12)]
LINES = [
    line(1, 0), line(-1, 0), line(2, 0), line(1, 5), line(Fraction(-2, 3), Fraction(5, 7)), line(3, Fraction(-1, 2)),
]
GREAT_LINES = [great_poly(seed, 1) for seed in (42, 43)]


def is_plain(p):
    n = degree_of(p)
    return n >= 2 and at(p, n) == 1 and at(p, n - 1) == 0 and at(p, 0) == 0


def some_plains(seed, many, low, high):
    """Plain ones of any fractions at the other powers."""
    told = []
    for p in some_polys(seed, many, low, high):
        some = listed(p)
        some[0] = some[-2] = Fraction(0)
        some[-1] = Fraction(1)
        told.append(poly_of(some))
    return told


def with_powers(seed, degree, step):
    """One with powers degree, degree - step, .. alone, none of them lacking."""
    some = [Fraction(0)] * (degree + 1)
    for k, r in zip(range(degree, -1, -step), some_fractions(seed, 20)):
        some[k] = r or Fraction(2, 3)
    return poly_of(some)


class Plain(unittest.TestCase):
    def assert_plain(self, f):
        told = plain(f)
        self.assertIs(type(told), tuple)
        l1, p, l2 = told
        self.assertEqual((degree_of(l1), degree_of(p), degree_of(l2)), (1, degree_of(f), 1), f)
        self.assertEqual(at(l2, 1), 1, f)
        self.assertTrue(is_plain(p), f)
        self.assertEqual(nested(l1, p, l2), f)

    def test_known_ones(self):
        self.assertEqual(plain(((1, 2, 1), 1)), (X, letter_to(2), line(1, 1)))
        self.assertEqual(plain(((0, 0, 3), 1)), (line(3, 0), letter_to(2), X))
        self.assertEqual(plain(((5, 0, 0, -2), 1)), (line(-2, 5), letter_to(3), X))
        self.assertEqual(plain(((0, 0, 3, 1), 1)), (line(1, 2), ((0, -3, 0, 1), 1), line(1, 1)))

    def test_samples_of_each_degree(self):
        self.assertEqual({degree_of(f) for f in SAMPLES}, set(range(2, 13)))
        for f in SAMPLES:
            self.assert_plain(f)

    def test_a_plain_one_itself(self):
        for p in some_plains(44, 20, 2, 12):
            self.assertEqual(plain(p), (X, p, X))

    def test_in_just_one_way(self):
        for p in some_plains(45, 12, 2, 8):
            for l1 in LINES:
                for l2 in (X, line(1, 7), line(1, Fraction(-3, 5))):
                    self.assertEqual(plain(nested(l1, p, l2)), (l1, p, l2))

    def test_forty_figures_at_each_degree(self):
        for n in range(2, 13):
            self.assert_plain(great_poly(n + 100, n))

    def test_what_was_told_is_handed_on(self):
        self.assert_plain(put(great_poly(46, 3), great_poly(47, 4)))
        self.assert_plain(plain(great_poly(48, 5))[1])

    def test_asked_again_the_same_and_nothing_changed(self):
        f = ((1, -2, 3, 4), 5)
        self.assertEqual(plain(f), plain(f))
        self.assertEqual(f, ((1, -2, 3, 4), 5))


class Leaves(unittest.TestCase):
    def test_known_ones(self):
        self.assertEqual(leaves(letter_to(2)), [X, line(-1, 0)])
        self.assertEqual(leaves(letter_to(3)), [X])
        self.assertEqual(leaves(((0, 2, 1), 1)), [X, line(-1, -2)])
        self.assertEqual(leaves(((1, 1, 0, 0, 1), 1)), [X])
        self.assertEqual(leaves(((0, -3, 1), 2)), [X, line(-1, 3)])

    def test_even_powers_alone(self):
        for n in (2, 4, 6, 8, 10, 12):
            self.assertEqual(leaves(with_powers(n, n, 2)), [X, line(-1, 0)])
            self.assertEqual(leaves(letter_to(n)), [X, line(-1, 0)])

    def test_odd_powers_alone(self):
        for n in (3, 5, 7, 9, 11):
            self.assertEqual(leaves(with_powers(n, n, 2)), [X])
            self.assertEqual(leaves(letter_to(n)), [X])

    def test_both(self):
        for n in range(3, 13):
            some = listed(with_powers(n, n, 2))
            some[n - 3 if n > 3 else 0] += 1
            self.assertEqual(leaves(poly_of(some)), [X])

    def test_each_odd_power_bars(self):
        for n in (4, 6, 8, 12):
            for k in range(1, n - 1, 2):
                some = listed(letter_to(n))
                some[k] = Fraction(-1, 3)
                self.assertEqual(leaves(poly_of(some)), [X])

    def test_with_straight_ones_outside_and_within(self):
        for l1 in LINES + GREAT_LINES:
            for l2 in LINES + GREAT_LINES:
                for n in (2, 4, 6):
                    f = nested(l1, with_powers(n, n, 2), l2)
                    told = leaves(f)
                    middle = -at(l2, 0) / at(l2, 1)
                    self.assertEqual(told, [X, line(-1, 2 * middle)])
                    self.assertEqual(nested(f, told[1]), f)
                self.assertEqual(leaves(nested(l1, with_powers(5, 5, 2), l2)), [X])
                self.assertEqual(leaves(nested(l1, ((0, 1, 0, 0, 1), 1), l2)), [X])

    def test_each_told_one_leaves_it(self):
        for f in SAMPLES:
            told = leaves(f)
            self.assertEqual(told[0], X)
            self.assertIn(len(told), (1, 2))
            self.assertEqual(len(set(told)), len(told))
            for l in told:
                self.assertEqual(nested(f, l), f)

    def test_just_where_the_plain_one_is_even(self):
        for f in SAMPLES:
            p = plain(f)[1]
            self.assertEqual(len(leaves(f)), 2 if nested(p, line(-1, 0)) == p else 1)

    def test_the_list_is_the_askers_own(self):
        for f in (letter_to(2), letter_to(3)):
            first = leaves(f)
            kept = list(first)
            first.append(X)
            first[0] = letter_to(5)
            self.assertEqual(leaves(f), kept)


class Alike(unittest.TestCase):
    def assert_alike(self, f, g):
        told = alike(f, g)
        self.assertIs(type(told), tuple, (f, g))
        l1, l2 = told
        self.assertEqual((degree_of(l1), degree_of(l2)), (1, 1))
        self.assertEqual(nested(l1, f, l2), g)

    def assert_both_ways(self, f, g):
        self.assert_alike(f, g)
        self.assert_alike(g, f)

    def test_each_with_itself(self):
        for f in SAMPLES:
            self.assert_alike(f, f)

    def test_with_straight_ones_outside_and_within(self):
        for f in some_polys(51, 16, 2, 12):
            for l1 in LINES:
                for l2 in LINES:
                    self.assert_both_ways(f, nested(l1, f, l2))

    def test_great_straight_ones(self):
        for f in some_polys(52, 6, 2, 8) + [great_poly(53, 5), great_poly(54, 12)]:
            self.assert_both_ways(f, nested(GREAT_LINES[0], f, GREAT_LINES[1]))

    def test_straight_ones_with_leads_below_nought(self):
        for f in (((0, 1, 0, 1), 1), ((0, 1, 0, 0, 1), 1), ((0, 0, 1, 1), 1), ((0, 1, 1, 0, 0, 1), 1)):
            for a in (-1, -2, Fraction(-3, 5)):
                for b in (-1, 1, 7):
                    self.assert_both_ways(f, nested(line(b, 2), f, line(a, 5)))

    def test_all_of_degree_two(self):
        some = [f for f in some_polys(55, 20, 2, 2)]
        for f, g in zip(some, some[1:]):
            self.assert_both_ways(f, g)

    def test_powers_of_the_letter(self):
        for n in range(2, 13):
            f, g = nested(line(3, 1), letter_to(n), line(2, 5)), nested(line(-7, 0), letter_to(n), line(1, -1))
            self.assert_both_ways(f, g)
            self.assert_both_ways(letter_to(n), g)
            if n > 2:
                self.assertIsNone(alike(letter_to(n), poly_of([0, 1] + [0] * (n - 2) + [1])))
                self.assertIsNone(alike(poly_of([0, 1] + [0] * (n - 2) + [1]), letter_to(n)))

    def test_unlike_degrees(self):
        for n in range(2, 12):
            self.assertIsNone(alike(letter_to(n), letter_to(n + 1)))
            self.assertIsNone(alike(letter_to(n + 1), letter_to(n)))

    def test_even_and_odd_powers_alone(self):
        for n in range(3, 13):
            f = with_powers(n, n, 2)
            for a in (3, -3, Fraction(1, 2)):
                self.assert_both_ways(f, nested(line(5, 1), f, line(a, 4)))

    def test_no_root_is_no_likeness(self):
        self.assertIsNone(alike(((0, 1, 0, 1), 1), ((0, 2, 0, 1), 1)))
        self.assertIsNone(alike(((0, 1, 0, 1), 1), ((0, -1, 0, 1), 1)))
        self.assert_both_ways(((0, 1, 0, 1), 1), ((0, 4, 0, 1), 1))
        self.assert_both_ways(((0, 1, 0, 0, 1), 1), ((0, 8, 0, 0, 1), 1))
        self.assert_both_ways(((0, 1, 0, 0, 1), 1), ((0, -8, 0, 0, 1), 1))
        self.assertIsNone(alike(((0, 1, 0, 0, 1), 1), ((0, 4, 0, 0, 1), 1)))

    def test_only_one_of_two_roots(self):
        f = ((0, 3, 2, 0, 1), 1)
        self.assert_both_ways(f, ((0, -3, 2, 0, 1), 1))
        self.assert_both_ways(f, ((0, 24, 8, 0, 1), 1))
        self.assert_both_ways(f, ((0, -24, 8, 0, 1), 1))
        self.assertIsNone(alike(f, ((0, 24, -8, 0, 1), 1)))
        self.assertIsNone(alike(f, ((0, 23, 8, 0, 1), 1)))

    def test_one_fraction_changed(self):
        for f in some_plains(56, 10, 5, 12):
            some = listed(f)
            some[2:4] = [Fraction(2, 3), Fraction(-1)] if len(some) > 5 else some[2:4]
            some[1] = Fraction(5)
            f = poly_of(some)
            for k in range(1, degree_of(f) - 1):
                other = listed(f)
                other[k] += Fraction(1, 97)
                g = nested(line(3, 1), poly_of(other), line(-2, 5))
                self.assertIsNone(alike(f, g), (f, k))
                self.assertIsNone(alike(g, f), (f, k))

    def test_another_lead_or_number_at_nought_is_taken_up_outside(self):
        f = ((0, 1, 1, 0, 0, 1), 1)
        self.assert_both_ways(f, ((7, 1, 1, 0, 0, 1), 1))
        self.assert_both_ways(f, ((0, 1, 1, 0, 0, 1), 9))
        self.assertIsNone(alike(f, ((0, 1, 1, 0, 0, 2), 1)))

    def test_turned_angles(self):
        for n in range(3, 9):
            self.assert_both_ways(angles(n, 1), angles(n, 4))
            self.assertIsNone(alike(angles(n, 1), angles(n, 2)))
            self.assertIsNone(alike(angles(n, 1), letter_to(n)))

    def test_asked_again_the_same_and_nothing_changed(self):
        f, g = ((0, 1, 0, 1), 1), ((1, 4, 0, 1), 1)
        self.assertEqual(alike(f, g), alike(f, g))
        self.assertEqual((f, g), (((0, 1, 0, 1), 1), ((1, 4, 0, 1), 1)))


if __name__ == "__main__":
    unittest.main()
