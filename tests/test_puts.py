import unittest
from fractions import Fraction

from nestwright.polys import degree, plus, poly, times, value
from nestwright.puts import again, put
from tests import oracles
from tests.oracles import FORTY, NOUGHT, OTHER_FORTY, X, listed, number, pair, some_fractions, some_lists


def made(some):
    return poly([pair(r) for r in some])


SAMPLES = [made(some) for some in some_lists(8, 14, 4)] + [NOUGHT, number(5), number(-2, 3), X]
PLACES = [pair(r) for r in some_fractions(9, 6)] + [(0, 1), (1, 1), (-1, 1)]


class Put(unittest.TestCase):
    def test_ordinary_ones(self):
        square, one_more = ((0, 0, 1), 1), ((1, 1), 1)
        self.assertEqual(put(square, one_more), ((1, 2, 1), 1))
        self.assertEqual(put(one_more, square), ((1, 0, 1), 1))
        self.assertEqual(put(((2, 0, 3), 4), ((1, 1), 2)), ((11, 6, 3), 16))

    def test_nought_on_either_side(self):
        f = ((2, 0, 3), 4)
        self.assertEqual(put(NOUGHT, f), NOUGHT)
        self.assertEqual(put(f, NOUGHT), number(1, 2))
        self.assertEqual(put(X, NOUGHT), NOUGHT)
        self.assertEqual(put(NOUGHT, NOUGHT), NOUGHT)

    def test_numbers_on_either_side(self):
        f = ((2, 0, 3), 4)
        self.assertEqual(put(number(-7, 3), f), number(-7, 3))
        self.assertEqual(put(f, number(2, 3)), number(5, 6))
        self.assertEqual(put(number(5), number(6)), number(5))
        self.assertEqual(put(((-4, 0, 1), 1), number(2)), NOUGHT)

    def test_the_letter_on_either_side(self):
        for f in SAMPLES:
            self.assertEqual(put(f, X), f)
            self.assertEqual(put(X, f), f)

    def test_samples_against_sums_of_powers(self):
        for f in SAMPLES:
            for g in SAMPLES:
                self.assertEqual(put(f, g), made(oracles.put_into(listed(f), listed(g))), (f, g))

    def test_degrees_are_multiplied(self):
        self.assertEqual(degree(put(((1, 0, 0, 2), 1), ((0, 1, 3), 5))), 6)
        f, g = made([1] * 12 + [Fraction(1, 3)]), made([Fraction(1, 2), 0, 5])
        self.assertEqual(degree(put(f, g)), 24)
        self.assertEqual(listed(put(f, g)), oracles.put_into(listed(f), listed(g)))
        self.assertEqual(listed(put(g, f)), oracles.put_into(listed(g), listed(f)))

    def test_three_either_way_about(self):
        for f in SAMPLES[:6] + [number(5)]:
            for g in SAMPLES[3:9] + [NOUGHT]:
                for h in (((1, -2), 3), ((0, 1, 1), 2), NOUGHT, number(3)):
                    self.assertEqual(put(put(f, g), h), put(f, put(g, h)))

    def test_sums_and_products_of_outer_ones(self):
        for f in SAMPLES[:6]:
            for g in SAMPLES[6:12]:
                h = ((1, -2, 3), 4)
                self.assertEqual(put(plus(f, g), h), plus(put(f, h), put(g, h)))
                self.assertEqual(put(times(f, g), h), times(put(f, h), put(g, h)))

    def test_at_a_fraction_it_is_f_at_what_g_comes_to(self):
        for f in SAMPLES:
            for g in SAMPLES:
                for r in PLACES:
                    self.assertEqual(value(put(f, g), r), value(f, value(g, r)))

    def test_forty_figures(self):
        f = made([Fraction(FORTY, 3), Fraction(-1, OTHER_FORTY), Fraction(5, FORTY)] + [Fraction(OTHER_FORTY, 7)] * 10)
        g = made([Fraction(-OTHER_FORTY, FORTY), 0, Fraction(FORTY, OTHER_FORTY)])
        self.assertEqual(listed(put(f, g)), oracles.put_into(listed(f), listed(g)))

    def test_asked_again_the_same_and_nothing_changed(self):
        f, g = ((2, 0, 3), 4), ((1, 1), 2)
        self.assertEqual(put(f, g), put(f, g))
        self.assertEqual((f, g), (((2, 0, 3), 4), ((1, 1), 2)))


class Again(unittest.TestCase):
    def test_nought_times_is_the_letter(self):
        for f in SAMPLES:
            self.assertEqual(again(f, 0), X)

    def test_once_is_itself(self):
        for f in SAMPLES:
            self.assertEqual(again(f, 1), f)

    def test_twice_is_f_of_f(self):
        for f in SAMPLES:
            self.assertEqual(again(f, 2), put(f, f))

    def test_more(self):
        for f in (((1, 2), 3), ((-1, 0, 1), 2), ((1, 1), 1), NOUGHT, number(4), X):
            for k in range(4):
                self.assertEqual(again(f, k + 1), put(f, again(f, k)))
                self.assertEqual(again(f, k + 1), put(again(f, k), f))

    def test_known_ones(self):
        self.assertEqual(again(((1, 1), 1), 6), ((6, 1), 1))
        self.assertEqual(again(((0, 2), 1), 5), ((0, 32), 1))
        self.assertEqual(again(((0, 0, 1), 1), 4), ((0,) * 16 + (1,), 1))
        self.assertEqual(again(((0, 1), 2), 6), ((0, 1), 64))

    def test_at_a_fraction_it_is_worked_out_again_and_again(self):
        for f in (((1, 2), 3), ((-1, 0, 1), 2), ((2, -1, 1), 3), ((FORTY, OTHER_FORTY), 11)):
            for r in PLACES:
                at = r
                for k in range(4):
                    self.assertEqual(value(again(f, k), r), at)
                    at = value(f, at)

    def test_asked_again_the_same_and_nothing_changed(self):
        f = ((-1, 0, 1), 2)
        self.assertEqual(again(f, 3), again(f, 3))
        self.assertEqual(f, ((-1, 0, 1), 2))


if __name__ == "__main__":
    unittest.main()
