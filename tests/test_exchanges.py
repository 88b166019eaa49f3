import unittest
from fractions import Fraction

from nestwright.chains import chains, neat, together
from nestwright.exchanges import exchanged, led
from nestwright.puts import put
from tests.oracles import (
    angles, by_powers, degree_of, degrees, great_poly, is_neat, letter_to, line, nested, some_polys,
)

SQUARE, CUBE = letter_to(2), letter_to(3)


def swapped(row, i):
    return row[:i] + [row[i + 1], row[i]] + row[i + 2:]


class Exchanged(unittest.TestCase):
    def assert_exchanged(self, chain, i):
        told = exchanged(chain, i)
        self.assertIs(type(told), tuple, (chain, i))
        self.assertEqual(degrees(told), swapped(degrees(chain), i))
        self.assertEqual(nested(*told), nested(*chain))
        self.assertTrue(is_neat(told))
        self.assertEqual(told[:i] + told[i + 2:], chain[:i] + chain[i + 2:])
        self.assertEqual(exchanged(told, i), chain)
        return told

    def test_known_ones(self):
        self.assertEqual(exchanged((SQUARE, CUBE), 0), (CUBE, SQUARE))
        self.assertEqual(exchanged((SQUARE, ((0, 1, 0, 1), 1)), 0), (((0, 1, 2, 1), 1), SQUARE))
        self.assertEqual(exchanged((((0, 1, 2, 1), 1), SQUARE), 0), (SQUARE, ((0, 1, 0, 1), 1)))
        self.assertEqual(exchanged((((5, 0, 3), 2), CUBE), 0), (((5, 0, 0, 3), 2), SQUARE))

    def test_those_that_can_not_be(self):
        self.assertIsNone(exchanged((((0, 1, 1), 1), CUBE), 0))
        self.assertIsNone(exchanged((SQUARE, ((0, 1, 1, 1), 1)), 0))
        self.assertIsNone(exchanged((((1, 1, 0, 1), 1), SQUARE), 0))
        for chain in chains(nested(((1, 1, 1), 1), ((0, 1, 0, 1), 1))):
            self.assertIsNone(exchanged(chain, 0))

    def test_degrees_alike(self):
        for chain in ((SQUARE, SQUARE), (CUBE, CUBE), (((1, 2, 3), 4), SQUARE), (CUBE, ((0, 1, 0, 1), 1))):
            self.assertIsNone(exchanged(chain, 0))
        self.assertIsNone(exchanged((SQUARE, SQUARE, CUBE), 0))
        self.assertIsNone(exchanged((CUBE, SQUARE, SQUARE), 1))

    def test_by_powers(self):
        for p in (((1, 1), 1), ((2, -3), 5), ((1, 0, 1), 1)):
            for r in (1, 2, 3):
                for k in (2, 3):
                    outer, within = by_powers(r, p, k)
                    if degree_of(outer) * k <= 24 and degree_of(outer) != k:
                        told = self.assert_exchanged(neat((outer, letter_to(k))), 0)
                        self.assertEqual(told, neat((letter_to(k), within)))

    def test_turned_angles(self):
        for r in (Fraction(1), Fraction(-2), Fraction(3, 7)):
            for m, k in ((2, 3), (3, 2), (2, 5), (3, 4), (4, 3), (6, 2), (2, 6), (2, 4), (4, 2), (5, 2)):
                told = self.assert_exchanged(neat((angles(m, r ** k), angles(k, r))), 0)
                self.assertEqual(told, neat((angles(k, r ** m), angles(m, r))))

    def test_straight_ones_outside_and_within(self):
        for l1 in (line(3, 1), line(-1, 5), line(Fraction(-2, 7), 0)):
            for l2 in (line(2, 3), line(-1, 1), line(Fraction(1, 5), 4)):
                chain = neat((nested(l1, SQUARE), nested(((0, 1, 0, 1), 1), l2)))
                self.assert_exchanged(chain, 0)

    def test_each_place_of_three(self):
        moved = nested(line(5, 1), letter_to(12), line(2, 3))
        for f in (letter_to(12), angles(12, 1), angles(12, Fraction(-3, 2)), moved):
            first, second, third = chains(f)
            self.assertIsNone(exchanged(first, 0))
            self.assertEqual(self.assert_exchanged(first, 1), second)
            self.assertEqual(self.assert_exchanged(second, 0), third)
            self.assertEqual(self.assert_exchanged(second, 1), first)
            self.assertEqual(self.assert_exchanged(third, 0), second)
            self.assertIsNone(exchanged(third, 1))

    def test_one_place_can_be_and_another_can_not(self):
        chain = (((1, 1, 1), 1), CUBE, SQUARE)
        self.assertIsNone(exchanged(chain, 0))
        self.assertEqual(self.assert_exchanged(chain, 1), (((1, 1, 1), 1), SQUARE, CUBE))
        chain = (SQUARE, CUBE, ((0, 1, 1), 1))
        self.assertIsNone(exchanged(chain, 1))
        self.assertEqual(self.assert_exchanged(chain, 0), (CUBE, SQUARE, ((0, 1, 1), 1)))

    def test_just_where_a_chain_of_such_degrees_is_there(self):
        for g in some_polys(121, 6, 2, 3):
            for h in some_polys(122, 6, 2, 3):
                chain = neat((g, h))
                rows = [degrees(other) for other in chains(nested(g, h))]
                can = degrees(chain)[::-1] in rows and degree_of(g) != degree_of(h)
                self.assertEqual(exchanged(chain, 0) is not None, can)

    def test_degrees_with_a_common_divisor(self):
        self.assertEqual(exchanged((letter_to(4), SQUARE), 0), (SQUARE, letter_to(4)))
        self.assertEqual(exchanged((letter_to(2), letter_to(6)), 0), (letter_to(6), letter_to(2)))
        self.assertIsNone(exchanged((((0, 1, 0, 0, 1), 1), SQUARE), 0))

    def test_forty_figures(self):
        outer, within = by_powers(1, great_poly(1, 1), 2)
        told = self.assert_exchanged(neat((outer, SQUARE)), 0)
        self.assertEqual(told, neat((SQUARE, within)))
        self.assertIsNone(exchanged(neat((great_poly(2, 3), great_poly(3, 4))), 0))

    def test_what_was_told_is_handed_on(self):
        f = put(put(great_poly(4, 1), letter_to(24)), great_poly(5, 1))
        first = chains(f)[0]
        self.assertEqual(degrees(first), [2, 2, 2, 3])
        self.assertEqual(degrees(self.assert_exchanged(first, 2)), [2, 2, 3, 2])

    def test_asked_again_the_same_and_nothing_changed(self):
        chain = (SQUARE, CUBE, SQUARE)
        self.assertEqual(exchanged(chain, 0), exchanged(chain, 0))
        self.assertEqual(chain, (SQUARE, CUBE, SQUARE))


class Led(unittest.TestCase):
    def test_along_no_place(self):
        for chain in chains(angles(12, 2)) + [(((1, 2, 3), 4),)]:
            self.assertEqual(led(chain, []), chain)
            self.assertEqual(led(chain, ()), chain)

    def test_along_one(self):
        for chain in chains(angles(12, 2)):
            for i in (0, 1):
                self.assertEqual(led(chain, [i]), exchanged(chain, i))
                self.assertEqual(led(chain, (i,)), exchanged(chain, i))

    def test_along_one_twice(self):
        for f in (letter_to(12), angles(12, 2)):
            for chain in chains(f):
                for i in (0, 1):
                    due = None if exchanged(chain, i) is None else chain
                    self.assertEqual(led(chain, [i, i]), due)

    def test_from_end_to_end(self):
        for f in (letter_to(12), angles(12, Fraction(5, 3))):
            first, second, third = chains(f)
            self.assertEqual(led(first, [1, 0]), third)
            self.assertEqual(led(third, (0, 1)), first)
            self.assertEqual(led(first, [1, 0, 0, 1]), first)
            self.assertEqual(together(led(first, [1, 0])), f)
            self.assertTrue(is_neat(led(first, [1, 0])))

    def test_where_one_can_not_be(self):
        first, second, third = chains(letter_to(12))
        self.assertIsNone(led(first, [0]))
        self.assertIsNone(led(first, [0, 1]))
        self.assertIsNone(led(first, [1, 0, 1]))
        self.assertIsNone(led(first, (1, 0, 1, 0)))
        self.assertIsNone(led(third, [0, 1, 0, 1]))
        self.assertIsNone(led((((0, 1, 1), 1), CUBE), [0, 0]))

    def test_the_places_stay(self):
        places = [1, 0]
        first = chains(letter_to(12))[0]
        told = led(first, places)
        self.assertEqual(places, [1, 0])
        self.assertEqual(led(first, places), told)


if __name__ == "__main__":
    unittest.main()
