import itertools
import re
import unittest
from fractions import Fraction

from nestwright.errors import BadText
from nestwright.polys import poly, power, value
from nestwright.polytexts import fraction_text, poly_text, read_fraction, read_poly
from tests.oracles import FORTY, FRACTION, NOUGHT, X, is_fraction, pair, some_fractions, some_lists

WORD = re.compile(rf"(?:({FRACTION}) )?(x(?:\^([0-9]+))?)|({FRACTION})")


def made(*some):
    return poly([pair(r) for r in some])


def is_poly(text):
    """By the rules of the document, one by one, unlike the program, which tells it again."""
    if text == "0":
        return True
    parts = re.split(r" [+-] ", text[1:] if text.startswith("-") else text)
    powers = []
    for part in parts:
        found = WORD.fullmatch(part)
        if not found:
            return False
        number, letter, figures, alone = found.groups()
        if alone is not None and (alone == "0" or not is_fraction(alone)):
            return False
        if number is not None and (number in ("0", "1") or not is_fraction(number)):
            return False
        if figures is not None and not re.fullmatch("[2-9]|1[0-9]|2[0-4]", figures):
            return False
        powers.append(0 if letter is None else int(figures or 1))
    return powers == sorted(set(powers), reverse=True)


class Refusing(unittest.TestCase):
    def assert_bad(self, read, text):
        with self.assertRaises(BadText, msg=repr(text)) as caught:
            read(text)
        self.assertEqual(caught.exception.at, 0, repr(text))


class FractionTexts(Refusing):
    TEXTS = (
        ((0, 1), "0"), ((1, 1), "1"), ((-1, 1), "-1"), ((7, 1), "7"), ((10, 1), "10"), ((-120, 1), "-120"),
        ((1, 2), "1/2"), ((-3, 4), "-3/4"), ((10, 3), "10/3"), ((-1, 100), "-1/100"),
    )

    def test_told(self):
        for r, text in self.TEXTS:
            self.assertEqual(fraction_text(r), text)

    def test_read(self):
        for r, text in self.TEXTS:
            self.assertEqual(read_fraction(text), r)
            self.assertEqual([type(part) for part in read_fraction(text)], [int, int])

    def test_forty_figures(self):
        figures, others = "7" * 40, "1" + "0" * 39
        for text in (figures, "-" + figures, "1/" + figures, f"-{figures}/{others}", f"{others}/{figures}"):
            self.assertEqual(fraction_text(read_fraction(text)), text)
        self.assertEqual(read_fraction(f"-{figures}/{others}"), (-FORTY, 10 ** 39))

    def test_forty_one_figures_are_refused(self):
        great = "1" + "0" * 40
        for text in (great, "-" + great, "1/" + great, f"-1/{great}", f"{great}/3", "9" * 41, "9" * 990):
            self.assert_bad(read_fraction, text)

    def test_greater_ones_are_told_all_the_same(self):
        self.assertEqual(fraction_text((10 ** 63, 7)), "1" + "0" * 63 + "/7")
        self.assertEqual(fraction_text((10 ** 64, 7)), "1" + "0" * 64 + "/7")
        self.assertEqual(fraction_text((-(10 ** 64) - 5, 1)), "-1" + "0" * 63 + "5")
        self.assertEqual(fraction_text((1, 10 ** 128)), "1/1" + "0" * 128)
        self.assertEqual(fraction_text((10 ** 200 - 1, 1)), "9" * 200)

    def test_beyond_what_python_tells_by_itself(self):
        r = value(power(made(1, FORTY), 24), (FORTY, 1))
        r = value(power(made(0, 1), 24), r)
        self.assertGreater(r[0], 10 ** 20000)
        text = fraction_text(r)
        pieces = [text[max(0, at - 1000):at] for at in range(len(text), 0, -1000)]
        told = 0
        for piece in reversed(pieces):
            told = told * 10 ** len(piece) + int(piece)
        self.assertEqual((told, 1), r)
        self.assertNotEqual(text[0], "0")
        self.assertTrue(set(text) <= set("0123456789"))

    def test_texts_that_are_none(self):
        for text in (
            "", " ", "-", "/", "+", "x", "1 ", " 1", "1\n", "\n1", "-0", "00", "01", "-01", "007/2", "1/02", "+1",
            "--1", "1-", "- 1", "2/4", "6/3", "0/2", "0/1", "-0/2", "5/1", "-5/1", "5/0", "0/0", "1/-2", "-1/-2",
            "1/", "/2", "1//2", "1/2/3", "1 /2", "1/ 2", "1.5", "1e3", "1_0", "0x1", "a", "1,0", "(1)", "1/+2",
            "\u0663", "\u00b2", "1/\u0663", "\uff11",
        ):
            self.assert_bad(read_fraction, text)

    def test_all_short_texts(self):
        for many in range(5):
            for signs in itertools.product("-/0123 +", repeat=many):
                text = "".join(signs)
                if is_fraction(text):
                    self.assertEqual(read_fraction(text), pair(Fraction(text)))
                else:
                    self.assert_bad(read_fraction, text)

    def test_samples_told_and_read_back(self):
        for r in some_fractions(10, 40) + some_fractions(11, 20, 40):
            text = fraction_text(pair(r))
            self.assertEqual(text, str(r))
            self.assertEqual(read_fraction(text), pair(r))


class PolyTexts(Refusing):
    TEXTS = (
        ((), "0"),
        ((1,), "1"),
        ((-1,), "-1"),
        ((Fraction(-3, 4),), "-3/4"),
        ((0, 1), "x"),
        ((0, -1), "-x"),
        ((1, 1), "x + 1"),
        ((-1, 1), "x - 1"),
        ((1, -1), "-x + 1"),
        ((-1, -1), "-x - 1"),
        ((0, 2), "2 x"),
        ((0, -2), "-2 x"),
        ((0, Fraction(1, 2)), "1/2 x"),
        ((0, Fraction(-1, 2)), "-1/2 x"),
        ((0, 0, 1), "x^2"),
        ((0, 0, -1), "-x^2"),
        ((1, 0, 1), "x^2 + 1"),
        ((0, 1, 1), "x^2 + x"),
        ((0, -1, 1), "x^2 - x"),
        ((Fraction(-1, 2), -1, Fraction(3, 4)), "3/4 x^2 - x - 1/2"),
        ((Fraction(1, 2), 10, Fraction(-3, 4)), "-3/4 x^2 + 10 x + 1/2"),
        ((0,) * 10 + (1,), "x^10"),
        ((1,) + (0,) * 11 + (-5,), "-5 x^12 + 1"),
        ((0,) * 24 + (1,), "x^24"),
        ((-7, 1) + (0,) * 21 + (-1, Fraction(2, 3)), "2/3 x^24 - x^23 + x - 7"),
    )

    def test_told(self):
        for some, text in self.TEXTS:
            self.assertEqual(poly_text(made(*some)), text)

    def test_read(self):
        for some, text in self.TEXTS:
            self.assertEqual(read_poly(text), made(*some))

    def test_nought_one_and_minus_one_at_each_power(self):
        for k in range(25):
            letter = "1" if k == 0 else "x" if k == 1 else f"x^{k}"
            for r, text in ((1, letter), (-1, "-" + letter)):
                p = made(*[0] * k, r)
                self.assertEqual(poly_text(p), text)
                self.assertEqual(read_poly(text), p)
            self.assertEqual(poly_text(made(*[0] * k, 0)), "0")

    def test_one_and_minus_one_behind_another_word(self):
        for k in range(24):
            letter = "1" if k == 0 else "x" if k == 1 else f"x^{k}"
            for r, text in ((1, f"2 x^24 + {letter}"), (-1, f"2 x^24 - {letter}")):
                p = made(*[0] * k, r, *[0] * (23 - k), 2)
                self.assertEqual(poly_text(p), text)
                self.assertEqual(read_poly(text), p)

    def test_fractions_are_told_in_lowest_terms(self):
        self.assertEqual(poly_text(((6, 4, 3), 12)), "1/4 x^2 + 1/3 x + 1/2")
        self.assertEqual(read_poly("1/4 x^2 + 1/3 x + 1/2"), ((6, 4, 3), 12))

    def test_degree_24_with_all_words(self):
        p = made(*[Fraction(k - 12, k % 5 + 1) for k in range(24)], Fraction(7, 3))
        self.assertEqual(read_poly(poly_text(p)), p)
        self.assertTrue(poly_text(p).startswith("7/3 x^24 + 11/4 x^23 + "))
        self.assertTrue(poly_text(p).endswith(" - 11/2 x - 12"))

    def test_forty_figures(self):
        figures, others = "7" * 40, "1" + "0" * 39
        text = f"-{figures} x^3 + {figures}/{others} x^2 - {others}/{figures} x + 1/{figures}"
        self.assertEqual(poly_text(read_poly(text)), text)

    def test_the_bottom_of_all_may_be_greater(self):
        bottoms = [10 ** 39 + k for k in (1, 3, 7, 9, 13)]
        text = f"1/{bottoms[0]} x^4 + 1/{bottoms[1]} x^3 - 1/{bottoms[2]} x^2 + 1/{bottoms[3]} x - 1/{bottoms[4]}"
        p = read_poly(text)
        self.assertGreater(p[1], 10 ** 150)
        self.assertEqual(p, made(*[Fraction(s, b) for s, b in zip((-1, 1, -1, 1, 1), reversed(bottoms))]))
        self.assertEqual(poly_text(p), text)

    def test_forty_one_figures_are_refused(self):
        great = "1" + "0" * 40
        for text in (
            f"{great} x", f"-{great} x", f"x + {great}", f"1/{great} x^2", f"x - {great}/3", f"{great}", f"x^{great}",
        ):
            self.assert_bad(read_poly, text)

    def test_greater_ones_are_told_all_the_same(self):
        text = poly_text(power(made(1, FORTY), 24))
        self.assertTrue(text.startswith(f"{FORTY ** 24} x^24 + "))
        self.assertTrue(text.endswith(" x + 1"))
        self.assert_bad(read_poly, text)

    def test_texts_that_are_none(self):
        for text in (
            "", " ", "\n", "-", "+", "+ x", "+x", "- x", "--x", "x -", "x +", "x + ", "x - ", " x", "x ", "x\n", "\nx",
            "x\n+ 1", "x + 1\n", "x  + 1", "x +  1", "x+1", "x +1", "x+ 1", "x-1", "2x", "2  x", "2\nx", "2 x ^2",
            "x ^2", "x^ 2", "x^-2", "x^+2", "x^", "x^2^2", "x^02", "x^1", "x^0", "3 x^1", "3 x^0", "x^25", "x^99",
            "x^100", "2 x^25 + 1", "1 x", "-1 x", "x^2 + 1 x", "x^2 - 1 x", "1 x^2", "x + x", "x^2 + x^2", "1 + x",
            "x + x^2", "x^2 + 1 + x", "1 + 1", "2 x - 2 x", "0 x", "-0", "x + 0", "x - 0", "0 + x", "0 x + 1",
            "x^2 + 0 x + 1", "x + -1", "x - -1", "x + - 1", "x - - 1", "x + +1", "x + --1", "01 x", "x + 01",
            "2/4 x", "x + 2/4", "4/2 x", "3/1 x", "x + 3/1", "3/0 x", "x + 3/0", "0/3", "1/1 x", "y", "X", "x x",
            "x 2", "2 3", "2 x 3", "2 * x", "2*x", "x**2", "(x)", "x/2", "x^2/3", "1/2x", "1.5 x", "xx", "x^2x",
            "x +\t1", "x^\u0662", "\u0662 x", "x = 1", "x + 1 ", " x + 1", "x + 1 + ", "/2 x", "1/ x", "-/2 x",
            "x of x", "00", "x | x",
        ):
            self.assert_bad(read_poly, text)

    def test_all_short_texts(self):
        for many in range(6):
            for signs in itertools.product("x^-+/ 12" if many == 5 else "x^-+/ 0123", repeat=many):
                text = "".join(signs)
                if is_poly(text):
                    self.assertEqual(poly_text(read_poly(text)), text)
                else:
                    self.assert_bad(read_poly, text)

    def test_one_sign_changed_left_out_or_put_in(self):
        for whole in ("-3/4 x^12 + x^2 - 10 x + 1/2", "x^24 - 5/6 x - 1", "2 x^3 - x^2 + 7"):
            for at in range(len(whole) + 1):
                for sign in ("", *" -+/^x0123456789\n"):
                    for text in (whole[:at] + sign + whole[at:], whole[:at] + sign + whole[at + 1:]):
                        if is_poly(text):
                            self.assertEqual(poly_text(read_poly(text)), text)
                        else:
                            self.assert_bad(read_poly, text)

    def test_samples_told_and_read_back(self):
        for some in some_lists(12, 40, 24) + some_lists(13, 6, 12, 40):
            p = made(*some)
            self.assertTrue(is_poly(poly_text(p)))
            self.assertEqual(read_poly(poly_text(p)), p)

    def test_asked_again_the_same_and_nothing_changed(self):
        p = ((6, 0, -3), 4)
        self.assertEqual(poly_text(p), poly_text(p))
        self.assertEqual(read_poly("x - 1"), read_poly("x - 1"))
        self.assertEqual(p, ((6, 0, -3), 4))
        self.assertEqual((poly_text(NOUGHT), poly_text(X)), ("0", "x"))


if __name__ == "__main__":
    unittest.main()
