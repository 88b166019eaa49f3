import unittest
from fractions import Fraction

from nestwright.apart import inner_degrees
from nestwright.chains import chains, neat, together
from nestwright.puts import again, put
from tests.oracles import (
    angles, degree_of, degrees, great_poly, is_neat, letter_to, line, listed, nested, poly_of, some_polys,
)

ONE = [(f,) for f in some_polys(101, 10, 2, 12)]
TWO = [(g, h) for g in some_polys(102, 5, 2, 4) for h in some_polys(103, 5, 2, 3)]
THREE = [
    (g, h, p)
    for g in some_polys(104, 3, 2, 3) for h in some_polys(105, 3, 2, 2) for p in some_polys(106, 3, 2, 2)
]
GREAT = [(great_poly(1, 3), great_poly(2, 4)), (great_poly(3, 3), great_poly(4, 2), great_poly(5, 2))]
CHAINS = ONE + TWO + THREE + GREAT


class Together(unittest.TestCase):
    def test_known_ones(self):
        a, b, c = ((1, 0, 1), 1), ((0, 1, 0, 1), 1), ((3, 0, 2), 1)
        self.assertEqual(together((a,)), a)
        self.assertEqual(together((a, b)), ((1, 0, 1, 0, 2, 0, 1), 1))
        self.assertEqual(together((b, a)), ((2, 0, 4, 0, 3, 0, 1), 1))
        self.assertEqual(together((a, b, c)), put(put(a, b), c))

    def test_samples(self):
        for chain in CHAINS:
            self.assertEqual(together(chain), nested(*chain))


class Neat(unittest.TestCase):
    def assert_neat(self, chain):
        told = neat(chain)
        self.assertIs(type(told), tuple)
        self.assertEqual(degrees(told), degrees(chain))
        self.assertEqual(nested(*told), nested(*chain))
        self.assertTrue(is_neat(told), chain)
        self.assertEqual(neat(told), told)

    def test_known_ones(self):
        self.assertEqual(neat((letter_to(2), ((3, 0, 2), 1))), (((9, 12, 4), 1), letter_to(2)))
        self.assertEqual(neat((((5, 1, 7), 3),)), (((5, 1, 7), 3),))
        told = neat((letter_to(2), letter_to(2), ((1, 0, -1), 2)))
        self.assertEqual(told, (((1, 2, 1), 16), ((0, -2, 1), 1), letter_to(2)))

    def test_samples(self):
        for chain in CHAINS:
            self.assert_neat(chain)

    def test_one_layer_stays(self):
        for chain in ONE:
            self.assertEqual(neat(chain), chain)

    def test_straight_ones_in_between_fall_out(self):
        for chain in TWO + THREE + GREAT:
            told = neat(chain)
            for l, back in ((line(3, -2), line(Fraction(1, 3), Fraction(2, 3))), (line(-1, 5), line(-1, 5))):
                for i in range(len(chain) - 1):
                    other = list(chain)
                    other[i] = nested(chain[i], l)
                    other[i + 1] = nested(back, chain[i + 1])
                    self.assertEqual(neat(tuple(other)), told)

    def test_what_was_told_is_handed_on(self):
        self.assert_neat((put(great_poly(1, 2), great_poly(2, 2)), again(((1, 2, 3), 4), 2)))

    def test_asked_again_the_same_and_nothing_changed(self):
        chain = (((1, 2, 3), 4), ((5, 6, 7), 8))
        self.assertEqual(neat(chain), neat(chain))
        self.assertEqual(chain, (((1, 2, 3), 4), ((5, 6, 7), 8)))


class Chains(unittest.TestCase):
    def assert_chains(self, f):
        told = chains(f)
        self.assertIs(type(told), list)
        self.assertGreaterEqual(len(told), 1)
        for chain in told:
            self.assertIs(type(chain), tuple)
            self.assertEqual(nested(*chain), f)
            self.assertTrue(is_neat(chain))
            for layer in chain:
                self.assertGreaterEqual(degree_of(layer), 2)
                self.assertEqual(inner_degrees(layer), [1, degree_of(layer)])
        rows = [degrees(chain) for chain in told]
        self.assertEqual(rows, sorted(rows))
        self.assertEqual(len(set(told)), len(told))
        self.assertEqual(len({tuple(sorted(row)) for row in rows}), 1)
        self.assertEqual(len(told), many_ways(f))
        return told

    def test_all_of_the_letter_to_the_twelfth(self):
        self.assertEqual(chains(letter_to(12)), [
            (letter_to(2), letter_to(2), letter_to(3)),
            (letter_to(2), letter_to(3), letter_to(2)),
            (letter_to(3), letter_to(2), letter_to(2)),
        ])

    def test_powers_of_the_letter(self):
        many = {2: 1, 3: 1, 4: 1, 5: 1, 6: 2, 7: 1, 8: 1, 9: 1, 10: 2, 11: 1, 12: 3}
        for n in many:
            self.assertEqual(len(self.assert_chains(letter_to(n))), many[n])

    def test_turned_angles_of_degree_twelve(self):
        for r in (1, -1, 2, Fraction(-3, 5)):
            told = self.assert_chains(angles(12, r))
            self.assertEqual([degrees(chain) for chain in told], [[2, 2, 3], [2, 3, 2], [3, 2, 2]])
            r = Fraction(r)
            self.assertEqual(told[0], neat((angles(2, r ** 6), angles(2, r ** 3), angles(3, r))))
            self.assertEqual(told[1], neat((angles(2, r ** 6), angles(3, r ** 2), angles(2, r))))
            self.assertEqual(told[2], neat((angles(3, r ** 4), angles(2, r ** 2), angles(2, r))))

    def test_two_ways_by_powers(self):
        f = ((0, 0, 1, 0, 2, 0, 1), 1)
        self.assertEqual(chains(f), [
            (letter_to(2), ((0, 1, 0, 1), 1)), (((0, 1, 2, 1), 1), letter_to(2)),
        ])

    def test_one_chain_alone(self):
        for chain in ((((1, 1, 1), 1), ((0, 1, 0, 1), 1)), (((0, 0, 1), 3), ((0, 1, 1), 1), ((0, 2, 0, 1), 1))):
            told = self.assert_chains(nested(*chain))
            self.assertEqual(told, [neat(chain)])

    def test_what_can_not_be_taken_apart(self):
        for f in (((0, 1, 0, 0, 1), 1), ((1, 1, 0, 0, 0, 0, 1), 2), letter_to(2), letter_to(11), ((5, -3, 2), 7)):
            self.assertEqual(chains(f), [(f,)])

    def test_samples(self):
        for chain in CHAINS:
            self.assert_chains(nested(*chain))

    def test_each_whole_chain_made_neat_is_one(self):
        for chain in TWO + THREE + GREAT:
            if all(inner_degrees(layer) == [1, degree_of(layer)] for layer in chain):
                self.assertIn(neat(chain), chains(nested(*chain)))

    def test_straight_ones_within(self):
        f = nested(line(-2, 7), letter_to(12), line(Fraction(3, 2), 5))
        self.assertEqual([degrees(chain) for chain in self.assert_chains(f)], [[2, 2, 3], [2, 3, 2], [3, 2, 2]])

    def test_one_fraction_changed(self):
        some = listed(letter_to(12))
        some[1] = Fraction(1, 10 ** 39)
        self.assertEqual(chains(poly_of(some)), [(poly_of(some),)])

    def test_what_was_told_is_handed_on(self):
        told = self.assert_chains(again(((1, 0, 3), 2), 4))
        self.assertEqual([degrees(chain) for chain in told], [[2, 2, 2, 2]])
        self.assertEqual(neat(told[0]), told[0])
        self.assertEqual(together(told[0]), again(((1, 0, 3), 2), 4))
        self.assertEqual(len(self.assert_chains(put(letter_to(12), letter_to(2)))), 4)
        self.assert_chains(put(great_poly(1, 6), great_poly(2, 4)))

    def test_the_list_is_the_askers_own(self):
        first = chains(letter_to(6))
        kept = list(first)
        first.append(())
        first[0] = ()
        self.assertEqual(chains(letter_to(6)), kept)


def many_ways(f):
    """How many rows of inner degrees lead from 1 to the degree, none left out that lies between two."""
    told = inner_degrees(f)
    ways = {1: 1}
    for s in told[1:]:
        below = [t for t in told if t < s and s % t == 0]
        ways[s] = sum(
            ways[t] for t in below if not any(t < u and u % t == 0 for u in below)
        )
    return ways[told[-1]]


if __name__ == "__main__":
    unittest.main()
