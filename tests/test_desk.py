import re
import unittest
from math import lcm

from nestwright.apart import apart, inner_degrees
from nestwright.chains import chains
from nestwright.chaintexts import chain_text, read_chain
from nestwright.common import common_inner
from nestwright.desk import answered
from nestwright.errors import BadText, NestError, NoRow
from nestwright.halves import again_roots
from nestwright.kinds import kind
from nestwright.outer import common_outer
from nestwright.plains import alike, leaves, plain
from nestwright.polytexts import poly_text, read_poly
from nestwright.puts import put
from tests.oracles import angles, degree_of, great_poly, letter_to, line, nested, some_polys

OF_ONE = ["degrees", "chains", "plain", "leaves"]
OF_TWO = ["put", "alike", "inner", "outer", "kind"]
NUMBERED = ["apart", "again"]
FROM_TWO_ON = ["chains", "plain", "leaves", "alike", "again", "kind"]

TEXTS = ["0", "5", "-1/2", "x", "2 x + 1", "x^2", "x^2 - x", "x^3", "x^3 + 3 x^2", "x^4", "x^4 + x", "x^5", "x^6 + x^2"]
TEXTS += ["x^7", "x^8", "x^9", "x^11", "x^12", "x^13", "x^16", "x^17", "x^24"]
NO_TEXTS = ["", " ", "y", "x ", " x", "x^1", "x +1", "2/4 x", "x\n", "x | x", "x^25", "x|x", "| x", "x |", "x^2 of x^2"]


def parted(some):
    return " | ".join(poly_text(p) for p in some)


def split_number(rest):
    """A number of one or two figures, and what stands behind it and a blank; or None."""
    found = re.fullmatch(r"([0-9]|[1-9][0-9]) (.*)", rest, re.DOTALL)
    return (int(found[1]), found[2]) if found else None


def is_text(text):
    try:
        read_poly(text)
    except BadText:
        return False
    return True


def degrees_let(word, number, degrees):
    """Whether the desk's words let these degrees by, one rule of the document at a time."""
    if word == "put":
        degrees = [max(n, 0) for n in degrees]
        return max(degrees) <= 12 and degrees[0] * degrees[1] <= 12
    if min(degrees) < (2 if word in FROM_TWO_ON else 1) or max(degrees) > (16 if word == "again" else 12):
        return False
    if word == "apart":
        return number in [s for s in range(1, degrees[0] + 1) if degrees[0] % s == 0]
    if word == "again":
        return number in (2, 3, 4)
    if word == "kind":
        return degrees[0] * degrees[1] <= 12
    if word == "outer":
        return max(degrees) <= 6 and lcm(*degrees) <= 12
    return True


def refusal_due(row):
    """NoRow, BadText, or None where the row is to be answered."""
    words = [word for word in OF_ONE + OF_TWO + NUMBERED if row.startswith(word + " ")]
    if not words:
        return NoRow
    word, rest = words[0], row[len(words[0]) + 1:]
    parts, number = rest.split(" | "), None
    if len(parts) != (2 if word in OF_TWO else 1):
        return NoRow
    if word in NUMBERED:
        if split_number(rest) is None:
            return NoRow
        number, text = split_number(rest)
        parts = [text]
    if not all(is_text(part) for part in parts):
        return BadText
    degrees = [degree_of(read_poly(part)) for part in parts]
    return None if degrees_let(word, number, degrees) else NoRow


class Answers(unittest.TestCase):
    def test_put(self):
        self.assertEqual(answered("put x^2 | x + 1"), "x^2 + 2 x + 1")
        self.assertEqual(answered("put x + 1 | x^2"), "x^2 + 1")
        self.assertEqual(answered("put 1/2 x^3 - x | -2 x^4"), "-4 x^12 + 2 x^4")
        self.assertEqual(answered("put x^2 + 3 | 0"), "3")
        self.assertEqual(answered("put 0 | x^12"), "0")
        self.assertEqual(answered("put 5 | x^12"), "5")
        self.assertEqual(answered("put x^12 | 2"), "4096")
        self.assertEqual(answered("put 0 | 0"), "0")
        for f in some_polys(211, 6, 0, 4):
            for g in some_polys(212, 6, 0, 3):
                self.assertEqual(answered(f"put {poly_text(f)} | {poly_text(g)}"), poly_text(put(f, g)))

    def test_degrees(self):
        self.assertEqual(answered("degrees x"), "1")
        self.assertEqual(answered("degrees x^12"), "1 2 3 4 6 12")
        self.assertEqual(answered("degrees x^4 + x"), "1 4")
        for f in some_polys(213, 20, 1, 12) + [angles(12, 3)]:
            self.assertEqual(answered("degrees " + poly_text(f)), " ".join(str(s) for s in inner_degrees(f)))

    def test_apart(self):
        self.assertEqual(answered("apart 2 x^4 + 2 x^2 + 3"), "made x^2 + 2 x + 3 | x^2")
        self.assertEqual(answered("apart 2 x^4 + x"), "barred 0 x^2")
        self.assertEqual(answered("apart 3 x^6 + x^4"), "barred 0 x^3 + 1/2 x")
        self.assertEqual(answered("apart 2 x^6 + x^5 + x^3"), "barred 0 x^2 + 1/3 x")
        self.assertEqual(answered("apart 1 2 x + 1"), "made 2 x + 1 | x")
        self.assertEqual(answered("apart 12 x^12"), "made x | x^12")
        for f in some_polys(214, 20, 1, 12) + [angles(12, 3), nested(((1, 2, 3), 5), ((0, 1, 0, 0, 7), 2))]:
            for s in range(1, degree_of(f) + 1):
                if degree_of(f) % s == 0:
                    word, one, other = apart(f, s)
                    due = f"made {parted([one, other])}" if word == "made" else f"barred {other} {poly_text(one)}"
                    self.assertEqual(answered(f"apart {s} {poly_text(f)}"), due)

    def test_apart_tells_the_digit_that_bars(self):
        # By x ** 2, with x times x ** 2 alone: the digit 1.
        self.assertEqual(answered("apart 2 x^6 + x^3"), "barred 1 x^2")

    def test_chains(self):
        self.assertEqual(answered("chains x^2 + 1"), "x^2 + 1")
        self.assertEqual(answered("chains x^6 + 2 x^4 + x^2"), "x^2 of x^3 + x | x^3 + 2 x^2 + x of x^2")
        due = "x^2 of x^2 of x^3 | x^2 of x^3 of x^2 | x^3 of x^2 of x^2"
        self.assertEqual(answered("chains x^12"), due)
        for f in some_polys(215, 10, 2, 12) + [angles(12, -2), letter_to(10)]:
            told = answered("chains " + poly_text(f))
            self.assertEqual(told, " | ".join(chain_text(chain) for chain in chains(f)))
            self.assertEqual([read_chain(text) for text in told.split(" | ")], chains(f))

    def test_plain(self):
        self.assertEqual(answered("plain x^3 + 3 x^2"), "x + 2 | x^3 - 3 x | x + 1")
        self.assertEqual(answered("plain 3 x^2"), "3 x | x^2 | x")
        for f in some_polys(216, 20, 2, 12):
            self.assertEqual(answered("plain " + poly_text(f)), parted(plain(f)))

    def test_leaves(self):
        self.assertEqual(answered("leaves x^3"), "x")
        self.assertEqual(answered("leaves x^2 + 2 x"), "x | -x - 2")
        for f in some_polys(217, 20, 2, 12) + [letter_to(12), angles(8, 3)]:
            self.assertEqual(answered("leaves " + poly_text(f)), parted(leaves(f)))

    def test_alike(self):
        self.assertEqual(answered("alike x^3 + x | x^3 + 4 x"), "yes")
        self.assertEqual(answered("alike x^3 + x | x^3 + 2 x"), "no")
        self.assertEqual(answered("alike x^12 | x^11"), "no")
        for f in some_polys(218, 8, 2, 5):
            for g in some_polys(219, 8, 2, 5) + [nested(line(2, 1), f, line(-3, 5))]:
                due = "no" if alike(f, g) is None else "yes"
                self.assertEqual(answered(f"alike {poly_text(f)} | {poly_text(g)}"), due)

    def test_inner(self):
        self.assertEqual(answered("inner x^6 | 2 x^4 + 1"), "x^2")
        self.assertEqual(answered("inner x | x^12"), "x")
        self.assertEqual(answered("inner 2 x^12 + 5 | x^12"), "x^12")
        for f in some_polys(220, 6, 1, 4):
            for g in some_polys(221, 6, 1, 4) + [nested(((0, 1, 1), 1), f)]:
                due = poly_text(common_inner(f, g)[0])
                self.assertEqual(answered(f"inner {poly_text(f)} | {poly_text(g)}"), due)

    def test_outer(self):
        self.assertEqual(answered("outer x^2 | x^3"), "x^3 | x^2")
        self.assertEqual(answered("outer x^2 + x | x^3"), "none")
        self.assertEqual(answered("outer x + 1 | 2 x + 3"), "x + 1/2 | 1/2 x")
        self.assertEqual(answered("outer x^4 | x^6"), "x^3 | x^2")
        for f in some_polys(222, 6, 1, 4):
            for g in some_polys(223, 6, 1, 3) + [f]:
                told = common_outer(f, g)
                due = "none" if told[0] == "none" else parted(told[1:])
                self.assertEqual(answered(f"outer {poly_text(f)} | {poly_text(g)}"), due)

    def test_again(self):
        self.assertEqual(answered("again 2 x^4"), "x^2")
        self.assertEqual(answered("again 2 x^9"), "-x^3 | x^3")
        self.assertEqual(answered("again 4 x^16"), "x^2")
        self.assertEqual(answered("again 3 x^8"), "x^2")
        self.assertEqual(answered("again 2 x^16 + x"), "none")
        self.assertEqual(answered("again 2 x^5"), "none")
        for k, h in ((2, ((1, 2, 3), 1)), (3, ((1, 0, 1), 1)), (4, ((-2, 0, 1), 1)), (2, ((0, 5, 0, 2), 3))):
            f = nested(*[h] * k)
            self.assertEqual(answered(f"again {k} {poly_text(f)}"), parted(again_roots(f, k)))

    def test_kind(self):
        self.assertEqual(answered("kind x^2 | x^3"), "powers")
        self.assertEqual(answered("kind x^2 | x^3 + x^2"), "none")
        self.assertEqual(answered("kind x^2 | x^4"), "none")
        turned = f"kind {poly_text(angles(3, 16))} | {poly_text(angles(4, 2))}"
        self.assertEqual(answered(turned), "turned")
        for f in some_polys(224, 6, 2, 3) + [letter_to(2)]:
            for g in some_polys(225, 6, 2, 4) + [letter_to(3)]:
                told = kind(f, g)
                due = "none" if told is None else told[0][0]
                self.assertEqual(answered(f"kind {poly_text(f)} | {poly_text(g)}"), due)

    def test_forty_figures(self):
        f, g = great_poly(1, 3), great_poly(2, 4)
        self.assertEqual(answered(f"put {poly_text(f)} | {poly_text(g)}"), poly_text(put(f, g)))
        self.assertEqual(answered(f"outer {poly_text(f)} | {poly_text(g)}"), "none")
        self.assertEqual(answered(f"chains {poly_text(great_poly(3, 12, 20))}"), poly_text(great_poly(3, 12, 20)))
        self.assertEqual(answered(f"plain {poly_text(g)}"), parted(plain(g)))

    def test_asked_again_the_same(self):
        for row in ("put x^2 | x + 1", "chains x^12", "again 2 x^9", "outer x^2 + x | x^3"):
            self.assertEqual(answered(row), answered(row))
            self.assertIs(type(answered(row)), str)


class Refusals(unittest.TestCase):
    def refuse(self, row, refusal):
        with self.assertRaises(NestError) as caught:
            answered(row)
        self.assertIs(type(caught.exception), refusal, row)
        if refusal is BadText:
            self.assertEqual(caught.exception.at, 0)

    def judge(self, row):
        """Holds the desk against the document's own words."""
        due = refusal_due(row)
        if due is None:
            self.assertIs(type(answered(row)), str)
        else:
            self.refuse(row, due)
        return due

    def test_no_such_word(self):
        for row in ("", " ", "put", "x^2", "putt x | x", "Put x | x", " put x | x", "pu x | x", "put\nx | x", "\nput x | x",
                    "puts x | x", "of x | x", "degree x", "chain x^2", "none x", "|", " | ", "degrees", "again", "x^2 | x^2"):
            self.refuse(row, NoRow)

    def test_another_count_of_parts(self):
        for word in OF_TWO:
            for rest in ("x^2", "", "x^2 | x^3 | x^2", "x^2 | x^3 | ", " | x^2 | x^3", "x^2 |  | x^3", "x^2|x^3",
                         "x^2 |x^3", "x^2| x^3", "| x^2", "x^2 |", "y", "y | y | y", "x^2 |\nx^3"):
                self.refuse(f"{word} {rest}", NoRow)
        for word in OF_ONE:
            for rest in ("x^2 | x^3", "x^2 | ", " | x^2", " | ", "x^2 | x^2 | x^2", "y | z", "0 | 0"):
                self.refuse(f"{word} {rest}", NoRow)
        for word in NUMBERED:
            for rest in ("2 x^4 | x^4", "2 x^4 | ", "2 | x^4", "2 y | y", " | 2 x^4"):
                self.refuse(f"{word} {rest}", NoRow)

    def test_no_such_number(self):
        for word in NUMBERED:
            for number in ("02", "00", "002", "100", "123", "-1", "+2", "2/1", "x", "a", "2a", "", " 2", "2.0", "1_0"):
                self.refuse(f"{word} {number} x^4", NoRow)
                self.refuse(f"{word} {number} y", NoRow)
            for rest in ("2", "12", "", "x^4", "2\nx^4", "2x^4", "2|x^4", "x^4 2"):
                self.refuse(f"{word} {rest}", NoRow)

    def test_no_polynomial(self):
        for bad in NO_TEXTS:
            if "|" not in bad:
                for word in OF_ONE:
                    self.refuse(f"{word} {bad}", BadText)
                for word in NUMBERED:
                    self.refuse(f"{word} 2 {bad}", BadText)
                for word in OF_TWO:
                    self.refuse(f"{word} {bad} | x^2", BadText)
                    self.refuse(f"{word} x^2 | {bad}", BadText)
                    self.refuse(f"{word} {bad} | {bad}", BadText)

    def test_the_parting_at_an_end_and_empty_parts(self):
        for word in OF_TWO:
            self.refuse(f"{word} x^2 | ", BadText)
            self.refuse(f"{word}  | x^2", BadText)
            self.refuse(f"{word}  | ", BadText)
            self.refuse(f"{word} | ", NoRow)
            self.refuse(f"{word} x^2 | | x^2", BadText)
            self.refuse(f"{word} x^2 | x^2\n", BadText)
            self.refuse(f"{word} x^2\n | x^2", BadText)
            self.refuse(f"{word} x^2  | x^2", BadText)
            self.refuse(f"{word} x^2 |  x^2", BadText)
            self.refuse(f"{word}  x^2 | x^2", BadText)
        for word in OF_ONE:
            self.refuse(f"{word} ", BadText)
            self.refuse(f"{word}  x^2", BadText)
            self.refuse(f"{word} x^2 ", BadText)
            self.refuse(f"{word} x^2\n", BadText)
            self.refuse(f"{word} x^2 |", BadText)
        for word in NUMBERED:
            self.refuse(f"{word} 2 ", BadText)
            self.refuse(f"{word} 2  x^4", BadText)
            self.refuse(f"{word} 2 x^4 ", BadText)
            self.refuse(f"{word} 2 x^4\n", BadText)

    def test_degrees_below(self):
        for low in ("0", "5", "-1/2"):
            for word in OF_ONE:
                self.refuse(f"{word} {low}", NoRow)
            for word in OF_TWO[1:]:
                self.refuse(f"{word} {low} | x^2", NoRow)
                self.refuse(f"{word} x^2 | {low}", NoRow)
            for number in (0, 1, 2):
                self.refuse(f"apart {number} {low}", NoRow)
                self.refuse(f"again {number} {low}", NoRow)
        for word in ("chains", "plain", "leaves"):
            self.refuse(f"{word} x", NoRow)
            self.refuse(f"{word} 2 x + 1", NoRow)
        for word in ("alike", "kind"):
            self.refuse(f"{word} x | x^2", NoRow)
            self.refuse(f"{word} x^2 | x", NoRow)
        self.refuse("again 2 x", NoRow)
        for row in ("degrees x", "apart 1 x", "inner x | x", "outer x | x", "put x | x"):
            self.assertIs(type(answered(row)), str)

    def test_degrees_above(self):
        for high in ("x^13", "x^16", "x^17", "x^24 + x"):
            for word in OF_ONE:
                self.refuse(f"{word} {high}", NoRow)
            for word in OF_TWO:
                for low in ("x", "x^2", "1", "0"):
                    self.refuse(f"{word} {high} | {low}", NoRow)
                    self.refuse(f"{word} {low} | {high}", NoRow)
            for number in (1, 2, 13, 16, 17, 24):
                self.refuse(f"apart {number} {high}", NoRow)
        self.refuse("again 2 x^17", NoRow)
        self.refuse("again 2 x^24", NoRow)
        for row in ("degrees x^12", "chains x^12", "plain x^12", "leaves x^12", "alike x^12 | x^12", "inner x^12 | x^12",
                    "again 2 x^13", "again 2 x^16", "apart 12 x^12", "put x^12 | x", "put x | x^12"):
            self.assertIs(type(answered(row)), str)

    def test_products_of_degrees(self):
        for word in ("put", "kind"):
            for m, k in ((2, 6), (6, 2), (3, 4), (4, 3), (2, 5)):
                self.assertIs(type(answered(f"{word} x^{m} | x^{k}")), str)
            for m, k in ((2, 7), (7, 2), (4, 4), (3, 5), (12, 2), (2, 12), (12, 12)):
                self.refuse(f"{word} x^{m} | x^{k}", NoRow)

    def test_least_common_multiples(self):
        for m, k in ((4, 6), (6, 4), (3, 4), (6, 6), (2, 5), (5, 5), (1, 6)):
            self.assertIs(type(answered(f"outer {text_of(m)} | {text_of(k)}")), str)
        for m, k in ((5, 3), (3, 5), (4, 5), (5, 6), (6, 5), (7, 1), (1, 7), (8, 4), (12, 12), (7, 7)):
            self.refuse(f"outer {text_of(m)} | {text_of(k)}", NoRow)

    def test_no_divisor(self):
        for n in range(1, 13):
            for s in range(0, 26):
                row = f"apart {s} {text_of(n)}"
                if s > 0 and n % s == 0:
                    self.assertIs(type(answered(row)), str)
                else:
                    self.refuse(row, NoRow)

    def test_another_k(self):
        for k in (0, 1, 5, 6, 8, 10, 16, 99):
            self.refuse(f"again {k} x^16", NoRow)
        for k in (2, 3, 4):
            self.assertIs(type(answered(f"again {k} x^16")), str)

    def test_the_first_one_due_is_told(self):
        # Parts ahead of texts, numbers ahead of texts, texts ahead of degrees.
        self.refuse("put y | y | y", NoRow)
        self.refuse("degrees y | y", NoRow)
        self.refuse("apart 02 y", NoRow)
        self.refuse("again 123 y", NoRow)
        self.refuse("apart 0 y", BadText)
        self.refuse("again 1 y", BadText)
        self.refuse("again 5 x^17 ", BadText)
        self.refuse("put x^13 | y", BadText)
        self.refuse("put y | x^13", BadText)
        self.refuse("kind x | x^2 + ", BadText)
        self.refuse("outer x^7 | x^1", BadText)
        self.refuse("chains x^25", BadText)
        self.refuse("chains x^24", NoRow)
        self.refuse("nothing y | y | y", NoRow)
        self.refuse("again 5 x^17", NoRow)
        self.refuse("apart 5 x^13", NoRow)

    def test_all_words_with_all_parts(self):
        found = {NoRow: 0, BadText: 0, None: 0}
        for word in OF_ONE + OF_TWO + NUMBERED + ["", "nothing", "Degrees"]:
            for one in TEXTS + NO_TEXTS:
                for start in ("", "1 ", "2 ", "3 ", "4 ", "5 ", "12 ", "0 ", "02 ", "123 "):
                    if start == "" or word in NUMBERED:
                        found[self.judge(f"{word} {start}{one}")] += 1
        for word in OF_TWO + ["degrees", "apart", "again"]:
            for one in TEXTS + NO_TEXTS:
                for other in TEXTS + NO_TEXTS:
                    found[self.judge(f"{word} {one} | {other}")] += 1
        for refusal in found:
            self.assertGreater(found[refusal], 300, refusal)


def text_of(n):
    """The text of the letter to the power n."""
    return "x" if n == 1 else f"x^{n}"


if __name__ == "__main__":
    unittest.main()
