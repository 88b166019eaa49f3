import unittest
from fractions import Fraction

from nestwright.rootsof import roots
from nestwright.polys import poly, value
from tests.oracles import FORTY, OTHER_FORTY, pair, some_fractions

SAMPLES = [r for r in some_fractions(21, 30) if r] + [Fraction(FORTY, OTHER_FORTY), Fraction(-5, FORTY)]


def due(base, k):
    """The k-th roots of the k-th power of a base that isn't 0."""
    return [pair(base)] if k % 2 else [pair(-abs(base)), pair(abs(base))]


def greatest_base(k, figures=100):
    """The greatest whole number whose k-th power has at most so many figures, sought by halves."""
    low, high = 1, 10 ** figures
    while high - low > 1:
        middle = (low + high) // 2
        low, high = (middle, high) if middle ** k < 10 ** figures else (low, middle)
    return low


class Roots(unittest.TestCase):
    def test_of_nought_one_and_minus_one(self):
        for k in range(1, 16):
            self.assertEqual(roots((0, 1), k), [(0, 1)])
            self.assertEqual(roots((1, 1), k), [(1, 1)] if k % 2 else [(-1, 1), (1, 1)])
            self.assertEqual(roots((-1, 1), k), [(-1, 1)] if k % 2 else [])

    def test_known_ones(self):
        self.assertEqual(roots((4, 9), 2), [(-2, 3), (2, 3)])
        self.assertEqual(roots((-8, 27), 3), [(-2, 3)])
        self.assertEqual(roots((8, 27), 3), [(2, 3)])
        self.assertEqual(roots((1, 16), 4), [(-1, 2), (1, 2)])
        self.assertEqual(roots((2, 1), 2), [])
        self.assertEqual(roots((4, 1), 3), [])
        self.assertEqual(roots((4, 3), 2), [])
        self.assertEqual(roots((3, 4), 2), [])
        self.assertEqual(roots((-4, 9), 2), [])
        self.assertEqual(roots((-16, 1), 4), [])
        self.assertEqual(roots((64, 1), 6), [(-2, 1), (2, 1)])

    def test_by_one_it_is_the_fraction(self):
        for r in SAMPLES + [Fraction(0)]:
            self.assertEqual(roots(pair(r), 1), [pair(r)])

    def test_powers_of_samples(self):
        for base in SAMPLES:
            for k in range(1, 16):
                self.assertEqual(roots(pair(base ** k), k), due(base, k), (base, k))

    def test_below_nought(self):
        for base in SAMPLES:
            for k in range(1, 16):
                told = roots(pair(-abs(base) ** k), k)
                self.assertEqual(told, [pair(-abs(base))] if k % 2 else [])

    def test_small_ones_all(self):
        bases = {Fraction(a, b) for a in range(-12, 13) for b in range(1, 7)}
        for k in (1, 2, 3, 4, 5, 15):
            found = {}
            for base in sorted(bases):
                found.setdefault(base ** k, []).append(pair(base))
            for top in range(-40, 41):
                for bottom in (1, 2, 4, 8, 9, 27, 32):
                    r = Fraction(top, bottom)
                    if k > 1 or r in bases:
                        self.assertEqual(roots(pair(r), k), found.get(r, []), (r, k))

    def test_a_hundred_figures(self):
        for k in range(1, 16):
            base = greatest_base(k)
            self.assertLessEqual(len(str(base ** k)), 100)
            for r in (Fraction(base), Fraction(-base), Fraction(base, base - 1), Fraction(1, base)):
                self.assertEqual(roots(pair(r ** k), k), due(r, k), (r, k))

    def test_a_hundred_figures_and_one_off(self):
        for k in range(2, 16):
            base = greatest_base(k)
            for off in (-1, 1):
                top, bottom = base ** k, (base - 1) ** k
                self.assertEqual(roots((top + off, 1), k), [])
                self.assertEqual(roots((-top + off, 1), k), [])
                self.assertEqual(roots((1, top + off), k), [])
                self.assertEqual(roots(pair(Fraction(top + off, bottom)), k), [])
                self.assertEqual(roots(pair(Fraction(top, bottom + off)), k), [])

    def test_powers_of_two_and_of_ten(self):
        for k in range(1, 16):
            for step in range(12):
                for base in (2 ** step, 10 ** step, 2 ** step - 1, 2 ** step + 1):
                    if base:
                        self.assertEqual(roots((base ** k, 1), k), due(Fraction(base), k))

    def test_what_was_told_is_handed_on(self):
        great = value(poly([(0, 1)] * 14 + [(1, 1)]), (FORTY, OTHER_FORTY))
        self.assertEqual(roots(great, 14), due(Fraction(FORTY, OTHER_FORTY), 14))
        greater = value(poly([(0, 1)] * 15 + [(1, 1)]), great)
        self.assertEqual(roots(greater, 15), [great])
        self.assertEqual(roots((greater[0] + 1, 1), 15), [])

    def test_the_list_is_the_askers_own(self):
        for r, k in (((4, 9), 2), ((0, 1), 2), ((2, 1), 2), ((8, 1), 3)):
            first = roots(r, k)
            kept = list(first)
            first.append((7, 1))
            first[0] = (9, 1)
            self.assertEqual(roots(r, k), kept)


if __name__ == "__main__":
    unittest.main()
