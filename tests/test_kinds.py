import unittest
from fractions import Fraction
from math import gcd

from nestwright.apart import apart
from nestwright.chains import chains
from nestwright.kinds import kind, kind_holds
from nestwright.puts import put
from tests.oracles import (
    FORTY, NOUGHT, OTHER_FORTY, X, angles, at, by_powers, changed, degree_of, great_poly, letter_to, line, line_back,
    nested, number, pair, some_polys, with_one,
)

LINES = [
    X, line(-1, 0), line(2, 0), line(1, 5), line(Fraction(-2, 3), Fraction(5, 7)), line(3, Fraction(-1, 2)),
]
GREAT_LINES = [great_poly(seed, 1) for seed in (1, 2, 3)]
DEGREES = [(2, 3), (3, 2), (2, 5), (5, 2), (3, 4), (4, 3)]
NUMBERS = [Fraction(1), Fraction(-1), Fraction(3), Fraction(-2, 5)]
GREAT = Fraction(FORTY, OTHER_FORTY)


def rows_of(lines):
    """Three straight ones at a time, all of them somewhere."""
    return [(lines[i], lines[i - 1], lines[i - 2]) for i in range(len(lines))]


def dressed(a, b, l1, l2, l3):
    """a and b with straight ones outside, in between and within."""
    return nested(l1, a, l2), nested(line_back(l2), b, l3)


def some_p(way, m, k):
    """Those r from 1 on, and polynomials P, by which the powers have these degrees."""
    step, due = (m, k) if way else (k, m)
    told = []
    for r in range(due % step, due + 1, step):
        for seed in (1, 2):
            told.append((r, some_polys(seed + 150, 1, (due - r) // step, (due - r) // step)[0]))
    return told


def powers_four(way, m, k, r, p):
    if way:
        outer, within = by_powers(r, p, m)
        return letter_to(m), within, outer, letter_to(m)
    outer, within = by_powers(r, p, k)
    return outer, letter_to(k), letter_to(k), within


def turned_four(m, k, r):
    return angles(m, r ** k), angles(k, r), angles(k, r ** m), angles(m, r)


def four_of(m, k, sort):
    """The four polynomials that a kind tells, as the document has them."""
    if sort[0] == "turned":
        return turned_four(m, k, Fraction(*sort[1]))
    return powers_four(sort[1], m, k, sort[2], sort[3])


def is_shown(a, b, c, d, told):
    """Whether what is told, well-formed, shows these four to be of its kind."""
    sort, (l1, l2, l3, l4) = told
    made = (nested(l1, a, l2), nested(line_back(l2), b, l3), nested(l1, c, l4), nested(line_back(l4), d, l3))
    return made == four_of(degree_of(a), degree_of(b), sort)


def apart_of(a, b):
    """c and d, as a of b is taken apart by a's degree."""
    word, c, d = apart(nested(a, b), degree_of(a))
    return (c, d) if word == "made" else None


def powers_samples():
    told = []
    for m, k in DEGREES:
        for way in (0, 1):
            for r, p in some_p(way, m, k):
                told.append(powers_four(way, m, k, r, p)[:2])
    return told


def turned_samples():
    return [turned_four(m, k, r)[:2] for m, k in DEGREES for r in NUMBERS + [GREAT]]


class Kind(unittest.TestCase):
    def assert_kind(self, a, b, word):
        told = kind(a, b)
        self.assertIs(type(told), tuple, (a, b))
        sort, lines = told
        self.assertEqual((type(sort), type(lines)), (tuple, tuple))
        self.assertEqual([degree_of(l) for l in lines], [1, 1, 1, 1])
        self.assertEqual(sort[0], word, (a, b))
        if word == "powers":
            self.assertEqual(len(sort), 4)
            self.assertIn(sort[1], (0, 1))
            self.assertGreaterEqual(sort[2], 1)
            self.assertNotEqual(sort[3], NOUGHT)
        else:
            self.assertEqual(len(sort), 2)
            self.assertNotEqual(sort[1][0], 0)
        c, d = apart_of(a, b)
        self.assertTrue(is_shown(a, b, c, d, told), (a, b, told))
        self.assertIs(kind_holds(a, b, c, d, told), True)
        return sort

    def test_known_ones(self):
        self.assertEqual(kind(letter_to(2), letter_to(3))[0][0], "powers")
        sort = self.assert_kind(((0, 1, 2, 1), 1), letter_to(2), "powers")
        self.assertEqual(sort, ("powers", 0, 1, ((1, 1), 1)))
        sort = self.assert_kind(letter_to(3), ((0, 5, 0, 0, 1), 1), "powers")
        self.assertEqual(sort, ("powers", 1, 1, ((5, 1), 1)))
        sort = self.assert_kind(angles(3, 16), angles(4, 2), "turned")
        self.assertEqual(sort, ("turned", (2, 1)))

    def test_of_the_powers(self):
        for a, b in powers_samples():
            for l1, l2, l3 in rows_of(LINES):
                self.assert_kind(*dressed(a, b, l1, l2, l3), "powers")

    def test_of_the_powers_either_way_about(self):
        p = ((1, 1), 1)
        a, b = powers_four(0, 4, 3, 1, p)[:2]
        for l1, l2, l3 in rows_of(LINES):
            self.assertEqual(self.assert_kind(*dressed(a, b, l1, l2, l3), "powers")[1], 0)
        a, b = powers_four(1, 3, 4, 1, p)[:2]
        for l1, l2, l3 in rows_of(LINES):
            self.assertEqual(self.assert_kind(*dressed(a, b, l1, l2, l3), "powers")[1], 1)

    def test_of_the_turned(self):
        for m, k in ((3, 4), (4, 3)):
            for r in NUMBERS:
                a, b = turned_four(m, k, r)[:2]
                for l1, l2, l3 in rows_of(LINES):
                    self.assert_kind(*dressed(a, b, l1, l2, l3), "turned")

    def test_of_both_it_is_of_the_powers(self):
        for m, k in ((2, 3), (3, 2), (2, 5), (5, 2)):
            for r in NUMBERS:
                a, b = turned_four(m, k, r)[:2]
                for l1, l2, l3 in rows_of(LINES):
                    self.assert_kind(*dressed(a, b, l1, l2, l3), "powers")

    def test_powers_of_the_letter(self):
        for m, k in DEGREES:
            for l1, l2, l3 in rows_of(LINES + GREAT_LINES):
                self.assert_kind(*dressed(letter_to(m), letter_to(k), l1, l2, l3), "powers")

    def test_forty_figures(self):
        for l1, l2, l3 in rows_of(GREAT_LINES):
            for m, k in DEGREES:
                a, b = turned_four(m, k, GREAT)[:2]
                self.assert_kind(*dressed(a, b, l1, l2, l3), "powers" if 2 in (m, k) else "turned")
            a, b = powers_four(0, 4, 3, 1, great_poly(4, 1))[:2]
            self.assert_kind(*dressed(a, b, l1, l2, l3), "powers")
            a, b = powers_four(1, 2, 5, 3, great_poly(5, 1))[:2]
            self.assert_kind(*dressed(a, b, l1, l2, l3), "powers")

    def test_those_that_can_not_be_taken_apart_so(self):
        self.assertIsNone(kind(((0, 1, 1), 1), letter_to(3)))
        self.assertIsNone(kind(letter_to(2), ((0, 1, 1, 1), 1)))
        self.assertIsNone(kind(((1, 1, 0, 1), 1), letter_to(2)))
        self.assertIsNone(kind(angles(3, 15), angles(4, 2)))
        self.assertIsNone(kind(angles(4, 8), nested(line(1, 1), angles(3, 2))))

    def test_one_fraction_changed(self):
        for m, k in ((3, 4), (4, 3)):
            a, b = turned_four(m, k, Fraction(3, 2))[:2]
            for at_power in range(1, m):
                self.assertIsNone(kind(changed(a, at_power), b))
            for at_power in range(0, k):
                self.assertIsNone(kind(a, changed(b, at_power)))

    def test_just_where_it_can_be_taken_apart_so(self):
        none = 0
        for a in some_polys(151, 12, 2, 5) + [letter_to(2), letter_to(3), angles(4, 8)]:
            for b in some_polys(152, 12, 2, 5) + [letter_to(2), letter_to(4), angles(3, 2)]:
                if degree_of(a) * degree_of(b) > 12:
                    continue
                if gcd(degree_of(a), degree_of(b)) > 1 or apart_of(a, b) is None:
                    self.assertIsNone(kind(a, b))
                    none += 1
                else:
                    self.assertIn(kind(a, b)[0][0], ("powers", "turned"))
        self.assertGreater(none, 20)

    def test_degrees_with_a_common_divisor(self):
        for m, k in ((2, 2), (3, 3), (2, 4), (4, 2), (2, 6), (6, 2)):
            self.assertIsNone(kind(letter_to(m), letter_to(k)))
            self.assertIsNone(kind(angles(m, 1), angles(k, 1)))

    def test_neighbours_in_chains(self):
        for f in (letter_to(12), angles(12, 3), nested(LINES[4], angles(12, -1), LINES[5])):
            for a, b, c in chains(f):
                for one, other in ((a, b), (b, c)):
                    if degree_of(one) != degree_of(other):
                        self.assert_kind(one, other, "powers")

    def test_somewhat_beyond_and_handed_on(self):
        for m, k in ((3, 5), (5, 3), (4, 5), (3, 8)):
            a, b = dressed(*turned_four(m, k, Fraction(2, 3))[:2], *rows_of(LINES)[5])
            self.assert_kind(a, b, "turned")
        self.assert_kind(put(line(3, 1), letter_to(5)), put(letter_to(7), line(2, 1)), "powers")

    def test_asked_again_the_same_and_nothing_changed(self):
        for a, b in powers_samples()[:4] + turned_samples()[-4:]:
            self.assertEqual(kind(a, b), kind(a, b))
        a, b = ((0, 1, 2, 1), 1), letter_to(2)
        kind(a, b)
        self.assertEqual((a, b), (((0, 1, 2, 1), 1), ((0, 0, 1), 1)))


class Holds(unittest.TestCase):
    @classmethod
    def setUpClass(cls):
        """Fours with what kind tells of them."""
        cls.samples = []
        for place, (a, b) in enumerate(powers_samples() + turned_samples()):
            a, b = dressed(a, b, *rows_of(LINES)[place % len(LINES)])
            cls.samples.append((a, b) + apart_of(a, b) + (kind(a, b),))

    def refuse(self, a, b, c, d, told):
        self.assertIs(kind_holds(a, b, c, d, told), False, (a, b, c, d, told))

    def judge(self, a, b, c, d, told):
        """Holds what the checker says against the document's own words."""
        self.assertIs(kind_holds(a, b, c, d, told), is_shown(a, b, c, d, told), (a, b, c, d, told))

    def test_what_is_told(self):
        for a, b, c, d, told in self.samples:
            self.assertIs(kind_holds(a, b, c, d, told), True)

    def test_written_by_hand(self):
        four = (X, X, X, X)
        for m, k in DEGREES:
            for way in (0, 1):
                for r, p in some_p(way, m, k):
                    made = powers_four(way, m, k, r, p)
                    self.assertIs(kind_holds(*made, (("powers", way, r, p), four)), True)
                    self.refuse(*made, (("powers", 1 - way, r, p), four))
            for r in NUMBERS:
                self.assertIs(kind_holds(*turned_four(m, k, r), (("turned", pair(r)), four)), True)

    def test_straight_ones_other_than_told(self):
        # L2, not l2, stands outside b, and L4 outside d.
        l1, l2, l3, l4 = LINES[2:]
        for m, k in DEGREES:
            for sort in (("turned", (3, 2)), ("powers", 0) + some_p(0, m, k)[0], ("powers", 1) + some_p(1, m, k)[0]):
                a, b, c, d = four_of(m, k, sort)
                a, b = nested(line_back(l1), a, line_back(l2)), nested(l2, b, line_back(l3))
                c, d = nested(line_back(l1), c, line_back(l4)), nested(l4, d, line_back(l3))
                self.assertIs(kind_holds(a, b, c, d, (sort, (l1, l2, l3, l4))), True)
                self.refuse(a, b, c, d, (sort, tuple(line_back(l) for l in (l1, l2, l3, l4))))
                self.assertEqual(nested(a, b), nested(c, d))

    def test_another_r_for_the_same(self):
        # x ** 3 times 1 is x times x of x ** 2.
        made = (letter_to(3), letter_to(2), letter_to(2), letter_to(3))
        four = (X, X, X, X)
        self.assertIs(kind_holds(*made, (("powers", 0, 3, number(1)), four)), True)
        self.assertIs(kind_holds(*made, (("powers", 0, 1, X), four)), True)
        self.refuse(*made, (("powers", 0, 2, X), four))
        self.refuse(*made, (("powers", 0, 1, number(1)), four))

    def test_of_both_kinds(self):
        for m, k in ((2, 3), (3, 2), (2, 5), (5, 2)):
            for r in NUMBERS:
                made = turned_four(m, k, r)
                self.assertIs(kind_holds(*made, (("turned", pair(r)), (X, X, X, X))), True)
                sort, lines = kind(*made[:2])
                self.assertEqual(sort[0], "powers")
                c, d = apart_of(*made[:2])
                self.assertIs(kind_holds(made[0], made[1], c, d, (sort, lines)), True)

    def test_another_word(self):
        for a, b, c, d, (sort, lines) in self.samples:
            for word in ("powers", "turned", "", "power", "none"):
                if word != sort[0]:
                    self.refuse(a, b, c, d, ((word,) + sort[1:], lines))

    def test_another_way_about(self):
        for a, b, c, d, (sort, lines) in self.samples:
            if sort[0] == "powers":
                other = with_one(sort, 1, 1 - sort[1])
                self.assertIs(kind_holds(a, b, c, d, (other, lines)), is_shown(a, b, c, d, (other, lines)))
                self.refuse(a, b, c, d, (with_one(sort, 1, 2), lines))

    def test_another_r(self):
        for a, b, c, d, (sort, lines) in self.samples:
            if sort[0] == "powers":
                for r in (0, sort[2] - 1, sort[2] + 1, sort[2] + degree_of(a), 50, 10 ** 12, -1):
                    if r != sort[2]:
                        self.refuse(a, b, c, d, (with_one(sort, 2, r), lines))

    def test_another_p(self):
        for a, b, c, d, (sort, lines) in self.samples:
            if sort[0] == "powers":
                p = sort[3]
                for other in [changed(p, k) for k in range(degree_of(p) + 2)] + [NOUGHT, great_poly(6, 12)]:
                    self.refuse(a, b, c, d, (with_one(sort, 3, other), lines))

    def test_p_of_the_other_sign(self):
        # For k even P and -P have the same power, but d isn't the same.
        made = powers_four(0, 3, 2, 1, ((1, 1), 1))
        told = (("powers", 0, 1, ((-1, -1), 1)), (X, X, X, X))
        self.refuse(*made, told)
        self.assertIs(kind_holds(*made, (told[0], (X, X, X, line(-1, 0)))), True)

    def test_another_a(self):
        for a, b, c, d, (sort, lines) in self.samples:
            if sort[0] == "turned":
                r = Fraction(*sort[1])
                for other in (0, -r, r + 1, 2 * r, 1 / r + r, r * r + 2):
                    if other != r:
                        self.refuse(a, b, c, d, (("turned", pair(other)), lines))

    def test_turned_by_nought(self):
        for m, k in DEGREES:
            made = (letter_to(m), letter_to(k), letter_to(k), letter_to(m))
            self.refuse(*made, (("turned", (0, 1)), (X, X, X, X)))

    def test_another_straight_one(self):
        for a, b, c, d, (sort, lines) in self.samples:
            for place in range(4):
                l = lines[place]
                for other in (changed(l, 0), changed(l, 1, at(l, 1)), line_back(l), nested(l, line(-1, 0)), X):
                    self.judge(a, b, c, d, (sort, with_one(lines, place, other)))
                self.refuse(a, b, c, d, (sort, with_one(lines, place, changed(l, 0))))
                self.refuse(a, b, c, d, (sort, with_one(lines, place, changed(l, 1, at(l, 1)))))

    def test_one_that_is_not_straight(self):
        for a, b, c, d, (sort, lines) in self.samples[::3]:
            for place in range(4):
                for other in (NOUGHT, number(3), letter_to(2)):
                    self.refuse(a, b, c, d, (sort, with_one(lines, place, other)))

    def test_two_straight_ones_changed_about(self):
        refused = 0
        for a, b, c, d, (sort, lines) in self.samples:
            for i in range(4):
                for k in range(i):
                    other = with_one(with_one(lines, i, lines[k]), k, lines[i])
                    self.judge(a, b, c, d, (sort, other))
                    refused += not is_shown(a, b, c, d, (sort, other))
        self.assertGreater(refused, 200)

    def test_one_of_the_four_otherwise(self):
        for row in self.samples:
            four, told = row[:4], row[4]
            for place in range(4):
                f = four[place]
                for k in range(degree_of(f) + 2):
                    self.refuse(*with_one(four, place, changed(f, k)), told)
                self.refuse(*with_one(four, place, X), told)
                self.refuse(*with_one(four, place, nested(line(1, 1), f)), told)

    def test_two_of_the_four_changed_about(self):
        for row in self.samples:
            four, told = row[:4], row[4]
            for i in range(4):
                for k in range(i):
                    if degree_of(four[i]) != degree_of(four[k]):
                        self.refuse(*with_one(with_one(four, i, four[k]), k, four[i]), told)

    def test_those_of_others(self):
        rows = self.samples
        for row, other in zip(rows, rows[1:]):
            if row[:2] != other[:2] and row[4][0] != other[4][0]:
                self.judge(*row[:4], other[4])

    def test_nothing_is_changed(self):
        row = self.samples[0]
        kept = tuple(row)
        self.assertIs(kind_holds(*row), True)
        self.assertIs(kind_holds(*row), True)
        self.assertEqual(row, kept)


if __name__ == "__main__":
    unittest.main()
