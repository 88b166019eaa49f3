import itertools
import re
import unittest

from nestwright.errors import BadText
from nestwright.reckontexts import read_reckoning, reckoning_text
from tests.oracles import FORTY, is_fraction, some_reckonings

LETTER = ("x",)
TWO = ("number", (2, 1))
A = ("name", "a")


def is_atom(word):
    """A term without brackets, or T, which stands for one that had some."""
    name = re.fullmatch("[a-z]{1,6}", word) is not None and word not in ("of", "again")
    return name or word == "T" or is_fraction(word)


def is_term(text):
    """By taking brackets away from within, unlike the program, which goes from the left."""
    if "T" in text:
        return False
    before = None
    while text != before:
        before = text
        text = re.sub(r"\((?:\+|-|\*|of) ([^ ()]+) ([^ ()]+)\)", without_brackets, text)
        text = re.sub(r"\((?:\^|again) ([^ ()]+) [0-6]\)", without_brackets, text)
    return is_atom(text)


def without_brackets(found):
    return "T" if all(is_atom(word) for word in found.groups()) else found.group(0)


class Telling(unittest.TestCase):
    TERMS = (
        (LETTER, "x"),
        (("number", (0, 1)), "0"),
        (("number", (-1, 1)), "-1"),
        (("number", (-3, 4)), "-3/4"),
        (("number", (120, 1)), "120"),
        (("name", "a"), "a"),
        (("name", "xx"), "xx"),
        (("name", "number"), "number"),
        (("name", "plus"), "plus"),
        (("name", "ofx"), "ofx"),
        (("name", "agai"), "agai"),
        (("name", "agains"), "agains"),
        (("plus", LETTER, TWO), "(+ x 2)"),
        (("minus", LETTER, TWO), "(- x 2)"),
        (("times", LETTER, TWO), "(* x 2)"),
        (("of", A, LETTER), "(of a x)"),
        (("power", LETTER, 0), "(^ x 0)"),
        (("power", A, 6), "(^ a 6)"),
        (("again", LETTER, 0), "(again x 0)"),
        (("again", A, 6), "(again a 6)"),
        (("plus", ("minus", LETTER, TWO), ("times", A, TWO)), "(+ (- x 2) (* a 2))"),
        (("again", ("of", ("power", LETTER, 2), A), 3), "(again (of (^ x 2) a) 3)"),
        (("times", ("number", (-1, 2)), ("power", ("power", LETTER, 1), 2)), "(* -1/2 (^ (^ x 1) 2))"),
        (("minus", ("number", (3, 1)), ("number", (-3, 1))), "(- 3 -3)"),
    )

    def test_terms_told_and_read(self):
        for term, text in self.TERMS:
            self.assertEqual(reckoning_text((("row", term),)), "row = " + text)
            self.assertEqual(read_reckoning("row = " + text), (("row", term),))

    def test_rows_are_parted_by_line_feeds(self):
        reckoning = (("a", LETTER), ("b", ("plus", A, TWO)), ("abcdef", ("name", "b")))
        text = "a = x\nb = (+ a 2)\nabcdef = b"
        self.assertEqual(reckoning_text(reckoning), text)
        self.assertEqual(read_reckoning(text), reckoning)

    def test_names_that_are_not_there_or_twice(self):
        reckoning = (("a", ("name", "nowher")), ("a", ("of", ("name", "b"), A)), ("a", ("name", "a")))
        text = "a = nowher\na = (of b a)\na = a"
        self.assertEqual(reckoning_text(reckoning), text)
        self.assertEqual(read_reckoning(text), reckoning)

    def test_reaches_are_not_looked_at(self):
        text = "a = (again (^ x 6) 6)"
        self.assertEqual(reckoning_text(read_reckoning(text)), text)

    def test_kinds(self):
        told = read_reckoning("a = (^ 1/2 3)")
        self.assertIs(type(told), tuple)
        self.assertIs(type(told[0]), tuple)
        name, term = told[0]
        self.assertEqual([type(part) for part in term], [str, tuple, int])
        self.assertIs(type(term[1][1]), tuple)

    def test_forty_figures(self):
        text = f"a = (+ -{FORTY} 1/{FORTY})"
        self.assertEqual(read_reckoning(text), (("a", ("plus", ("number", (-FORTY, 1)), ("number", (1, FORTY)))),))
        self.assertEqual(reckoning_text(read_reckoning(text)), text)

    def test_six_within_one_another(self):
        text = "a = (+ (+ (+ (+ (+ x x) x) x) x) x)"
        self.assertEqual(reckoning_text(read_reckoning(text)), text)
        text = "a = (+ x (+ x (+ x (+ x (+ x x)))))"
        self.assertEqual(reckoning_text(read_reckoning(text)), text)

    def test_samples_told_and_read_back(self):
        for reckoning in some_reckonings(14, 150, 5):
            text = reckoning_text(reckoning)
            self.assertEqual(read_reckoning(text), reckoning)
            self.assertEqual(reckoning_text(read_reckoning(text)), text)
            for row in text.split("\n"):
                self.assertTrue(is_term(row.partition(" = ")[2]), row)

    def test_nothing_is_changed(self):
        reckoning = (("a", ("plus", LETTER, TWO)),)
        self.assertEqual(reckoning_text(reckoning), reckoning_text(reckoning))
        self.assertEqual(reckoning, (("a", ("plus", LETTER, TWO)),))


class Refusing(unittest.TestCase):
    def assert_bad(self, text, at):
        with self.assertRaises(BadText, msg=repr(text)) as caught:
            read_reckoning(text)
        self.assertEqual(caught.exception.at, at, repr(text))

    def assert_bad_row(self, row):
        """Alone, behind good rows, ahead of good ones, ahead of bad ones."""
        self.assert_bad(row, 0)
        self.assert_bad("a = x\nb = 1/2\n" + row, 2)
        self.assert_bad("a = x\n" + row + "\nb = a", 1)
        self.assert_bad("a = x\n" + row + "\nb = (", 1)

    def test_names(self):
        for name in (
            "x", "of", "again", "", " ", "abcdefg", "A", "aB", "a1", "1", "a_b", "a b", " a", "a ", "-a", "(a", "a)",
            "\u00e4", "\u03b1", "1/2", "=", "a=",
        ):
            self.assert_bad_row(name + " = 2")

    def test_names_within_terms(self):
        for name in ("of", "again", "abcdefg", "A", "a1", "a_b", "aB", "xX", "\u00e4", "a=", "a-b", "abcdefghij"):
            self.assert_bad_row("a = " + name)
            self.assert_bad_row(f"a = (+ x {name})")
            self.assert_bad_row(f"a = (^ {name} 2)")

    def test_rows(self):
        for row in (
            "", " ", "a", "a =", "a = ", "= x", " = x", "a=x", "a =x", "a= x", "a  = x", "a =  x", " a = x", "a = x ",
            "a == x", "a = = x", "a = b = c", "a = x = x", "a x", "a : x", "a = x y", "a = x 2", "a = 1 2", "x", "2",
            "a = x\r", "a = x\t", "a\t= x",
        ):
            self.assert_bad_row(row)

    def test_line_feeds(self):
        self.assert_bad("", 0)
        self.assert_bad("\n", 0)
        self.assert_bad("a = x\n", 1)
        self.assert_bad("\na = x", 0)
        self.assert_bad("a = x\n\nb = x", 1)
        self.assert_bad("a = x\nb = a\n", 2)
        self.assert_bad("a = (+ x\n2)", 0)
        self.assert_bad("a =\nx", 0)

    def test_numbers(self):
        for text in (
            "-0", "00", "01", "2/4", "5/1", "5/0", "0/3", "+1", "--1", "1/-2", "1/", "/2", "1.5", "-", "2x", "\u0663",
            "1" + "0" * 40, "-1" + "0" * 40, "1/1" + "0" * 40, "-x", "x^2",
        ):
            self.assert_bad_row("a = " + text)
            self.assert_bad_row(f"a = (* {text} x)")
            self.assert_bad_row(f"a = (* x {text})")

    def test_figures(self):
        for word in ("^", "again"):
            for k in (
                "7", "8", "9", "10", "-1", "00", "01", "1/2", "x", "a", "+1", "", "2x", "6/1", "(+ x 2)", "(^ x 2)",
                "\u0662", "-0", "66",
            ):
                self.assert_bad_row(f"a = ({word} x {k})")
            for k in range(7):
                self.assertEqual(read_reckoning(f"a = ({word} x {k})")[0][1][2], k)

    def test_terms_too_few_or_too_many(self):
        for word in ("+", "-", "*", "of"):
            for rest in ("", " ", " x", " x ", " x x x", " x (+ x x) x", " (+ x x)"):
                self.assert_bad_row(f"a = ({word}{rest})")
        for word in ("^", "again"):
            for rest in ("", " ", " x", " 2", " x 2 2", " x x 2", " x 2 x", " 2 2 2", " (^ x 2)"):
                self.assert_bad_row(f"a = ({word}{rest})")

    def test_brackets(self):
        for term in (
            "(", ")", "()", "(x)", "(2)", "((+ x x))", "((x))", "(+ x 2", "+ x 2)", "+ x 2", "(+ x 2))", "x)", "(x",
            "(+ (+ x 2) 2", "(+ x (+ x 2)", "(+ x 2) x", "x (+ x 2)", "(+ x 2) (+ x 2)", "(+ x 2)(+ x 2)",
            "(+ x(+ x 2))",
            "(+ (+ x 2)x)", "(+(+ x 2) x)", "(+ x) 2", "[+ x 2]", "{+ x 2}", "(^ x (2))", "(^ x 2) 3", "(of x",
            "(again x",
            "(^ x 2))", "(again x 2))", "(^ (^ x 2 3)", ")x(", "x(", "(+ x 2(", "(+ )x 2)",
        ):
            self.assert_bad_row("a = " + term)

    def test_blanks(self):
        for term in (
            "( + x 2)", "(+  x 2)", "(+ x  2)", "(+ x 2 )", "(+ x 2) ", " (+ x 2)", "(+x 2)", "(+ x2)", "(+\tx 2)",
            "(^ x  2)", "(^ x 2 )", "(again  x 2)", "(againx 2)", "(ofx 2)", "(^x 2)", "( x)", "(+ (+ x 2)  2)",
            "(+ (+ x 2 ) 2)", "(+ ( + x 2) 2)",
        ):
            self.assert_bad_row("a = " + term)

    def test_words(self):
        for word in (
            "/", "**", "++", "plus", "minus", "times", "power", "x", "number", "name", "Of", "AGAIN", "a", "2", "^^",
        ):
            self.assert_bad_row(f"a = ({word} x 2)")

    def test_brackets_opened_on_and_on(self):
        self.assert_bad("a = " + "(+ " * 330, 0)
        self.assert_bad("a = " + "(^ " * 330 + "x", 0)
        self.assert_bad("a = " + "(" * 990, 0)
        self.assert_bad("a = x" + ")" * 990, 0)

    def test_the_first_of_several(self):
        self.assert_bad("x = x\nof = x", 0)
        self.assert_bad("a = x\nb = )\nc = (\n", 1)
        self.assert_bad("a = x\nb = x\nc = x\nd = x\ne = x\nf = 01", 5)

    def test_all_short_terms(self):
        words = ["(+", "(^", "(again", "x", "2", "7", "a", ")", " ", "of"]
        for many in range(1, 6):
            for some in itertools.product(words, repeat=many):
                term = "".join(some)
                if is_term(term):
                    self.assertEqual(reckoning_text(read_reckoning("a = " + term)), "a = " + term)
                else:
                    self.assert_bad("a = " + term, 0)

    def test_one_sign_changed_left_out_or_put_in(self):
        whole = "(- (of (^ a 2) (+ x 3/4)) (again (* -2 x) 3))"
        for at in range(len(whole) + 1):
            for sign in ("", *" ()-+*^/=xaof0268"):
                for term in (whole[:at] + sign + whole[at:], whole[:at] + sign + whole[at + 1:]):
                    if is_term(term):
                        self.assertEqual(reckoning_text(read_reckoning("a = " + term)), "a = " + term)
                    else:
                        self.assert_bad("a = " + term, 0)


if __name__ == "__main__":
    unittest.main()
