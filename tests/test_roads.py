import unittest
from fractions import Fraction

from nestwright.chains import chains
from nestwright.exchanges import led
from nestwright.puts import put
from nestwright.roads import road
from tests.oracles import (
    angles, by_powers, degrees, great_poly, letter_to, line, line_back, nested, some_polys,
)

LINES = [line(1, 0), line(-1, 0), line(3, 1), line(Fraction(-2, 7), Fraction(1, 5)), great_poly(1, 1)]
SQUARE, CUBE = letter_to(2), letter_to(3)


def all_ways(f):
    """Each pair of chains of f."""
    told = chains(f)
    return [(chain, other) for chain in told for other in told]


class Road(unittest.TestCase):
    def assert_road(self, chain, other):
        told = road(chain, other)
        self.assertIs(type(told), list)
        self.assertTrue(all(type(i) is int and 0 <= i < len(chain) - 1 for i in told), told)
        self.assertEqual(led(chain, told), other)
        return told

    def assert_all(self, f, many):
        self.assertEqual(len(chains(f)), many)
        for chain, other in all_ways(f):
            there, back = self.assert_road(chain, other), self.assert_road(other, chain)
            self.assertEqual(led(chain, there + back), chain)
            self.assertEqual(there == [], chain == other)

    def test_known_ones(self):
        first, second, third = chains(letter_to(12))
        self.assertEqual(degrees(first), [2, 2, 3])
        self.assertEqual(road(first, second), [1])
        self.assertEqual(road(first, third), [1, 0])
        self.assertEqual(road(third, first), [0, 1])
        self.assertEqual(road((SQUARE, CUBE), (CUBE, SQUARE)), [0])

    def test_powers_of_the_letter(self):
        for n, many in ((4, 1), (6, 2), (8, 1), (9, 1), (10, 2), (12, 3)):
            self.assert_all(letter_to(n), many)

    def test_powers_of_the_letter_between_straight_ones(self):
        for l1 in LINES:
            for l2 in LINES:
                self.assert_all(nested(l1, letter_to(12), l2), 3)

    def test_turned_angles_between_straight_ones(self):
        for r in (1, -1, Fraction(3, 5), 7):
            for l1, l2 in zip(LINES, LINES[::-1]):
                self.assert_all(nested(l1, angles(12, r), l2), 3)

    def test_three_layers_the_outer_two_exchanged(self):
        outer, within = by_powers(1, ((2, 3), 5), 2)
        for l in LINES:
            last = nested(l, ((0, 1, 1), 1))
            f = nested(outer, SQUARE, line_back(l), last)
            self.assert_all(f, 2)

    def test_three_layers_the_inner_two_exchanged(self):
        outer, within = by_powers(1, ((1, 4), 7), 2)
        for l in LINES:
            self.assert_all(nested(((1, 1, 1), 1), l, outer, SQUARE), 2)
            self.assert_all(nested(((1, 1, 1), 1), l, SQUARE, within), 2)

    def test_layers_of_unlike_kinds(self):
        p = ((1, 1), 1)
        # x ** 3 times p of x ** 2 of x ** 2: the one 2 goes past the 3, and past it alone.
        outer, within = by_powers(1, p, 2)
        wider, deeper = by_powers(1, nested(p, SQUARE), 2)
        self.assert_all(nested(SQUARE, SQUARE, within), 2)
        self.assert_all(nested(outer, SQUARE, ((0, 3, 1), 1)), 2)
        self.assertEqual(degrees(chains(nested(wider, SQUARE))[0]), [2, 5])
        self.assert_all(nested(wider, SQUARE), 2)

    def test_a_layer_of_degree_four_that_can_not_be_taken_apart(self):
        outer, within = by_powers(1, ((1, 1), 1), 3)
        f = nested(outer, CUBE)
        self.assertEqual([degrees(chain) for chain in chains(f)], [[3, 4], [4, 3]])
        self.assert_all(f, 2)

    def test_samples(self):
        many = 0
        for g in some_polys(131, 5, 2, 3):
            for h in some_polys(132, 5, 2, 2):
                for p in some_polys(133, 4, 2, 2):
                    for f in (nested(g, h, p), nested(h, by_powers(1, p, 2)[0])):
                        for chain, other in all_ways(f):
                            self.assert_road(chain, other)
                            many += 1
        self.assertGreater(many, 100)

    def test_from_a_chain_to_itself(self):
        for f in [letter_to(12), angles(12, 2), ((1, 2, 3), 4)] + some_polys(134, 20, 2, 12):
            for chain in chains(f):
                self.assertEqual(road(chain, chain), [])
                self.assertEqual(road(chain, tuple(list(chain))), [])

    def test_what_was_told_is_handed_on(self):
        self.assert_all(put(letter_to(12), SQUARE), 4)
        self.assert_all(put(letter_to(10), CUBE), 6)
        self.assert_all(put(letter_to(12), CUBE), 6)
        self.assert_all(put(letter_to(12), letter_to(5)), 12)
        self.assert_all(put(angles(12, 32), angles(5, 2)), 12)
        self.assert_all(put(put(great_poly(4, 1), letter_to(24)), great_poly(5, 1)), 4)

    def test_numbers_of_forty_figures(self):
        outer, within = by_powers(1, great_poly(7, 1), 2)
        self.assert_all(nested(great_poly(8, 2), SQUARE, within), 2)

    def test_the_list_is_the_askers_own(self):
        first, second, third = chains(letter_to(12))
        for chain, other in ((first, third), (first, first)):
            told = road(chain, other)
            kept = list(told)
            told.append(5)
            told[0] = 7
            self.assertEqual(road(chain, other), kept)

    def test_nothing_handed_in_is_changed(self):
        told = chains(letter_to(12))
        kept = list(told)
        road(told[0], told[2])
        self.assertEqual(told, kept)


if __name__ == "__main__":
    unittest.main()
