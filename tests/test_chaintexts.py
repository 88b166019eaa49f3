import unittest
from fractions import Fraction

from nestwright.chains import chains
from nestwright.chaintexts import chain_text, read_chain
from nestwright.errors import BadText, NestError
from nestwright.polytexts import poly_text, read_poly
from nestwright.puts import put
from tests.oracles import FORTY, OTHER_FORTY, angles, degree_of, great_poly, letter_to, poly_of, some_polys

GOOD = ["x^2", "2 x^3 - 1/2", "-x^2 + x", "x^12", "-7/3 x^4 + 5 x - 1"]
NO_TEXTS = [
    "", " ", "x^2 ", " x^2", "x^2  + 1", "x ^2", "y^2", "x^1", "x^02", "2x^2", "1 x^2", "x^2 + 0", "x + x^2",
    "x^2 +1", "x^2\n", "\nx^2", "off", "x^25", "x^2 off", "oof x^2", "(x^2)", "x^2 | x^2", "2/4 x^2", "x**2", "X^2",
    "1" * 41 + " x^2",
]
LOW = ["0", "1", "-5/3", "x", "-x", "2 x + 1", "-1/2 x - 7"]


class Written(unittest.TestCase):
    def test_known_ones(self):
        self.assertEqual(chain_text((letter_to(2),)), "x^2")
        self.assertEqual(chain_text((letter_to(2), ((0, 1, 0, 1), 1))), "x^2 of x^3 + x")
        chain = (((-1, 0, 4), 2), ((0, 0, -1), 1), ((0, 3, 7), 5))
        self.assertEqual(chain_text(chain), "2 x^2 - 1/2 of -x^2 of 7/5 x^2 + 3/5 x")

    def test_layers_are_told_as_polynomials_are(self):
        some = some_polys(201, 12, 2, 12)
        for many in (1, 2, 3, 4):
            for at in range(len(some) - many):
                chain = tuple(some[at:at + many])
                self.assertEqual(chain_text(chain), " of ".join(poly_text(layer) for layer in chain))

    def test_what_was_told_is_handed_on(self):
        f = put(great_poly(1, 3), great_poly(2, 4))
        self.assertEqual(chain_text((f, f)), f"{poly_text(f)} of {poly_text(f)}")


class Read(unittest.TestCase):
    def refuse(self, text, at):
        with self.assertRaises(BadText) as caught:
            read_chain(text)
        self.assertEqual(caught.exception.at, at, text)
        self.assertIs(type(caught.exception), BadText)

    def refuse_at_each_place(self, bad):
        for many in (1, 2, 3, 4):
            for at in range(many):
                self.refuse(" of ".join(GOOD[:at] + [bad] + GOOD[at + 1:many]), at)

    def test_known_ones(self):
        self.assertEqual(read_chain("x^2"), (letter_to(2),))
        self.assertEqual(read_chain("x^2 of x^3 + x"), (letter_to(2), ((0, 1, 0, 1), 1)))
        chain = (((-1, 0, 4), 2), ((0, 0, -1), 1), ((0, 3, 7), 5))
        self.assertEqual(read_chain("2 x^2 - 1/2 of -x^2 of 7/5 x^2 + 3/5 x"), chain)

    def test_written_and_read(self):
        some = some_polys(202, 30, 2, 12) + [letter_to(24), great_poly(3, 12, 20)]
        for many in (1, 2, 3, 4):
            for at in range(len(some) - many + 1):
                chain = tuple(some[at:at + many])
                told = read_chain(chain_text(chain))
                self.assertIs(type(told), tuple)
                self.assertEqual(told, chain)
                self.assertEqual(chain_text(told), chain_text(chain))

    def test_forty_figures(self):
        chain = (poly_of([Fraction(FORTY, 3), 0, Fraction(-OTHER_FORTY)]), poly_of([0, 0, Fraction(1, FORTY)]))
        self.assertEqual(read_chain(chain_text(chain)), chain)

    def test_more_figures(self):
        self.refuse(f"x^2 of {10 ** 40} x^2", 1)
        self.refuse(f"1/{10 ** 40} x^2 of x^2", 0)
        self.assertEqual(read_chain(f"x^2 of {10 ** 39} x^2"), (letter_to(2), ((0, 0, 10 ** 39), 1)))

    def test_any_number_of_layers(self):
        for many in (1, 5, 12, 100):
            self.assertEqual(read_chain(" of ".join(["x^2"] * many)), (letter_to(2),) * many)

    def test_chains_of_one_polynomial(self):
        for f in (letter_to(12), angles(12, 2)):
            for chain in chains(f):
                self.assertEqual(read_chain(chain_text(chain)), chain)

    def test_a_layer_that_is_no_text(self):
        for bad in NO_TEXTS:
            self.refuse_at_each_place(bad)

    def test_a_layer_of_lesser_degree(self):
        for bad in LOW:
            self.assertLess(degree_of(read_poly(bad)), 2)
            self.refuse_at_each_place(bad)

    def test_the_first_such_is_told(self):
        for first in LOW + ["", "y"]:
            for second in LOW + ["", "y"]:
                self.refuse(f"{first} of {second}", 0)
                self.refuse(f"x^2 of {first} of {second} of x^2", 1)
                self.refuse(f"x^2 of {first} of x^2 of {second}", 1)
                self.refuse(f"x^2 of x^2 of {first} of {second}", 2)

    def test_the_parting_at_an_end(self):
        self.refuse("x^2 of ", 1)
        self.refuse(" of x^2", 0)
        self.refuse(" of ", 0)
        self.refuse("x^2 of x^3 of ", 2)
        self.refuse("x^2 of", 0)
        self.refuse("of x^2", 0)
        self.refuse("x^2 of x^3 of", 1)

    def test_the_parting_twice(self):
        self.refuse("x^2 of  of x^2", 1)
        self.refuse("x^2 of of x^2", 1)
        self.refuse("x^2 of x^3 of  of x^2", 2)
        self.refuse("x^2 of x^3 of of x^2", 2)
        self.refuse(" of  of ", 0)

    def test_the_parting_left_out_or_otherwise(self):
        self.refuse("x^2 x^2", 0)
        self.refuse("x^2x^2", 0)
        self.refuse("x^2 of x^2 x^2", 1)
        self.refuse("x^2of x^2", 0)
        self.refuse("x^2 ofx^2", 0)
        self.refuse("x^2 Of x^2", 0)
        self.refuse("x^2 | x^2", 0)
        self.refuse("x^2\nof x^2", 0)
        self.refuse("x^2  of x^2", 0)
        self.refuse("x^2 of  x^2", 1)
        self.refuse("x^2 of x^2 ", 1)
        self.refuse("x^2 of x^2\n", 1)
        self.refuse("x^2 of x^2  of x^2", 1)

    def test_nothing_at_all(self):
        self.refuse("", 0)
        self.refuse(" ", 0)
        self.refuse("\n", 0)

    def test_it_is_a_refusal_as_all_are(self):
        with self.assertRaises(NestError):
            read_chain("x")
        with self.assertRaises(ValueError):
            read_chain("x")

    def test_asked_again_the_same(self):
        self.assertEqual(read_chain("x^2 of x^3"), read_chain("x^2 of x^3"))
        self.assertEqual(chain_text(read_chain("x^2 of x^3")), "x^2 of x^3")


if __name__ == "__main__":
    unittest.main()
