import sys
import unittest
from fractions import Fraction

from nestwright.errors import NestError
from nestwright.looks import look
from nestwright.polys import poly, power, value
from nestwright.polytexts import poly_text
from nestwright.puts import again, put
from nestwright.reckontexts import read_reckoning
from nestwright.works import valued, worked
from tests import oracles
from tests.oracles import NOUGHT, X, listed, pair, some_fractions, some_reckonings

PLACES = [(0, 1), (1, 1), (-1, 1), (1, 2), (-7, 3), (999, 1), (1, 999)] + [pair(r) for r in some_fractions(17, 4)]


def let_by(seed, many):
    told = []
    for reckoning in some_reckonings(seed, many):
        try:
            look(reckoning)
        except NestError:
            continue
        told.append(reckoning)
    return told


def own_poly(term, known):
    """By lists of Fractions and their own sums, products, powers and putting in."""
    sort, *rest = term
    if sort == "x":
        return [Fraction(0), Fraction(1)]
    if sort == "number":
        return oracles.trimmed([Fraction(*rest[0])])
    if sort == "name":
        return known[rest[0]]
    first = own_poly(rest[0], known)
    if sort == "power":
        return oracles.power_of(first, rest[1])
    if sort == "again":
        made = [Fraction(0), Fraction(1)]
        for _ in range(rest[1]):
            made = oracles.put_into(made, first)
        return made
    second = own_poly(rest[1], known)
    if sort == "times":
        return oracles.product_of(first, second)
    if sort == "of":
        return oracles.put_into(first, second)
    return oracles.sum_of(first, second if sort == "plus" else [-r for r in second])


class Works(unittest.TestCase):
    def assert_comes_to(self, text, *rows):
        """Worked out it has this text, and at each place it is valued alike."""
        reckoning = read_reckoning("\n".join(rows))
        self.assertIs(look(reckoning), True)
        p = worked(reckoning)
        self.assertEqual(poly_text(p), text, rows)
        for r in PLACES:
            self.assertEqual(valued(reckoning, r), value(p, r), (rows, r))

    def test_letters_numbers_names(self):
        self.assert_comes_to("x", "a = x")
        self.assert_comes_to("0", "a = 0")
        self.assert_comes_to("-3/4", "a = -3/4")
        self.assert_comes_to("x", "a = x", "b = a")
        self.assert_comes_to("999/998", "a = x", "b = 999/998", "c = b")

    def test_sums_and_products(self):
        self.assert_comes_to("x + 2", "a = (+ x 2)")
        self.assert_comes_to("x - 2", "a = (- x 2)")
        self.assert_comes_to("-x + 2", "a = (- 2 x)")
        self.assert_comes_to("0", "a = (- x x)")
        self.assert_comes_to("2 x", "a = (* x 2)")
        self.assert_comes_to("x^2 - 1", "a = (* (+ x 1) (- x 1))")
        self.assert_comes_to("0", "a = (* 0 (+ x 1))")

    def test_powers(self):
        self.assert_comes_to("1", "a = (^ x 0)")
        self.assert_comes_to("1", "a = (^ 0 0)")
        self.assert_comes_to("x", "a = (^ x 1)")
        self.assert_comes_to("x^6", "a = (^ x 6)")
        self.assert_comes_to("x^3 + 3 x^2 + 3 x + 1", "a = (^ (+ x 1) 3)")
        self.assert_comes_to("1/64", "a = (^ -1/2 6)")

    def test_putting_in(self):
        self.assert_comes_to("x^2 + 2 x + 1", "a = (of (^ x 2) (+ x 1))")
        self.assert_comes_to("x^2 + 1", "a = (of (+ x 1) (^ x 2))")
        self.assert_comes_to("5", "a = (of 5 (+ x 1))")
        self.assert_comes_to("26", "a = (of (+ (^ x 2) 1) 5)")
        self.assert_comes_to("4 x^2 + 1", "a = (+ (^ x 2) 1)", "b = (* 2 x)", "c = (of a b)")

    def test_again(self):
        self.assert_comes_to("x", "a = (again (+ x 1) 0)")
        self.assert_comes_to("x", "a = (again 5 0)")
        self.assert_comes_to("5", "a = (again 5 1)")
        self.assert_comes_to("5", "a = (again 5 3)")
        self.assert_comes_to("x + 1", "a = (again (+ x 1) 1)")
        self.assert_comes_to("x + 6", "a = (again (+ x 1) 6)")
        self.assert_comes_to("4 x + 3", "a = (again (+ (* 2 x) 1) 2)")
        self.assert_comes_to("x^16", "a = (again (^ x 2) 4)")
        self.assert_comes_to("x^4 - 2 x^2", "a = (- (^ x 2) 1)", "b = (again a 2)")

    def test_of_within_again_and_again_within_of(self):
        self.assert_comes_to("x^16 + 4 x^12 + 6 x^8 + 4 x^4 + 2", "a = (again (of (+ x 1) (^ (^ x 2) 2)) 2)")
        self.assert_comes_to("4 x + 9", "a = (again (of (+ x 3) (* 2 x)) 2)")
        self.assert_comes_to("4 x + 18", "a = (again (of (* 2 x) (+ x 3)) 2)")
        self.assert_comes_to("x^2 + 4 x + 4", "a = (of (^ x 2) (again (+ x 1) 2))")

    def test_a_name_stands_for_its_row_at_each_place(self):
        self.assert_comes_to("2 x^2 + 4 x + 3", "a = (+ (^ x 2) 1)", "b = (+ a (+ (of a (+ x 1)) (+ (* 2 x) 0)))")
        self.assert_comes_to("x^2 + 2 x", "a = (+ x 1)", "b = (- (* a a) (of 1 a))")

    def test_names_used_more_than_once(self):
        self.assert_comes_to("64 x", "a = (+ x x)", "b = (+ a a)", "c = (+ b b)", "d = (+ c c)", "e = (+ d d)",
                             "f = (+ e e)")
        self.assert_comes_to("x^2 - x - 1", "a = (- x 1)", "b = (- (* a (+ a 2)) a)", "c = (- b 1)")

    def test_rows_that_are_not_asked_for(self):
        self.assert_comes_to("x", "a = (^ x 6)", "b = (+ a 1)", "c = x")

    def test_each_row_once_at_a_fraction(self):
        rows = ["a = (+ x 1)"]
        for before, name in zip("abcde", "bcdef"):
            rows.append(f"{name} = (- (+ (+ {before} {before}) (+ {before} {before})) (+ {before} {before}))")
        reckoning = read_reckoning("\n".join(rows))
        calls = []
        before = sys.getprofile()
        sys.setprofile(lambda frame, event, arg: calls.append(event) if event == "call" else None)
        try:
            told = valued(reckoning, (1, 2))
        finally:
            sys.setprofile(before)
        self.assertEqual(told, (48, 1))
        self.assertLess(len(calls), 500)

    def test_point_three_layer_by_layer(self):
        outer, middle, inner = "(+ (^ x 2) 1/3)", "(- (* 2 x) 5)", "(* x (- x 1/2))"
        reckoning = read_reckoning(f"f = {outer}\ng = {middle}\nh = {inner}\ni = (of f (of g h))\nj = (of (of f g) h)")
        f, g, h = [worked(read_reckoning("a = " + text)) for text in (outer, middle, inner)]
        self.assertEqual(worked(reckoning), put(f, put(g, h)))
        for r in PLACES:
            self.assertEqual(valued(reckoning, r), value(f, value(g, value(h, r))))
            self.assertEqual(valued(reckoning[:4], r), value(f, value(g, value(h, r))))

    def test_as_the_polynomials_own_deeds(self):
        p = worked(read_reckoning("a = (- (^ x 2) 3/2)"))
        self.assertEqual(worked(read_reckoning("a = (- (^ x 2) 3/2)\nb = (^ a 5)")), power(p, 5))
        self.assertEqual(worked(read_reckoning("a = (- (^ x 2) 3/2)\nb = (again a 4)")), again(p, 4))
        self.assertEqual((worked(read_reckoning("a = x")), worked(read_reckoning("a = 0"))), (X, NOUGHT))

    def test_samples(self):
        reckonings = let_by(18, 400)
        self.assertGreater(len(reckonings), 80)
        for reckoning in reckonings:
            known = {}
            for name, term in reckoning:
                known[name] = own_poly(term, known)
            p = worked(reckoning)
            self.assertEqual(listed(p), known[reckoning[-1][0]])
            self.assertEqual(p, poly([pair(r) for r in listed(p)]))
            for r in PLACES:
                self.assertEqual(valued(reckoning, r), value(p, r), (reckoning, r))

    def test_three_figures(self):
        self.assert_comes_to(
            poly_text(power(((-998, 999), 1), 6)), "a = (- (* 999 x) 998)", "b = (^ a 6)",
        )
        reckoning = read_reckoning("a = (+ (^ x 2) 997/999)\nb = (again a 4)")
        self.assertEqual(valued(reckoning, (998, 997)), value(worked(reckoning), (998, 997)))

    def test_asked_again_the_same_and_nothing_changed(self):
        text = "a = (+ x 1)\nb = (again (of a (^ x 2)) 3)"
        reckoning = read_reckoning(text)
        self.assertEqual(worked(reckoning), worked(reckoning))
        self.assertEqual(valued(reckoning, (2, 3)), valued(reckoning, (2, 3)))
        self.assertEqual(valued(reckoning, (1, 1)), (26, 1))
        self.assertEqual(valued(reckoning, (0, 1)), (5, 1))
        self.assertEqual(reckoning, read_reckoning(text))


if __name__ == "__main__":
    unittest.main()
