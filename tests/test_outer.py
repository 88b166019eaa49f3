import unittest
from fractions import Fraction
from math import lcm

from nestwright.common import common_inner
from nestwright.outer import common_outer, outer_holds
from nestwright.puts import put
from tests.oracles import (
    NOUGHT, X, angles, at, by_powers, changed, degree_of, great_poly, letter_to, line, listed, nested, number, pair,
    power_of, some_polys, with_one,
)

LINES = [X, line(-1, 0), line(3, 1), line(Fraction(-2, 7), Fraction(5, 3))]
DEGREES = [(m, k) for m in range(1, 7) for k in range(1, 7) if lcm(m, k) <= 12]


def least(f, g):
    return lcm(degree_of(f), degree_of(g))


def weighed(weights, some):
    return sum(Fraction(*weight) * r for weight, r in zip(weights, some))


def outer_shown(f, g, u, v):
    most = least(f, g)
    if degree_of(u) != most // degree_of(f) or degree_of(v) != most // degree_of(g):
        return False
    return at(u, degree_of(u)) == 1 and at(v, 0) == 0 and nested(u, f) == nested(v, g)


def none_shown(f, g, weights):
    most = least(f, g)
    if len(weights) != most + 1:
        return False
    ahead = [power_of(listed(f), i) for i in range(most // degree_of(f))]
    ahead += [power_of(listed(g), j) for j in range(1, most // degree_of(g) + 1)]
    last = power_of(listed(f), most // degree_of(f))
    return all(weighed(weights, some) == 0 for some in ahead) and weighed(weights, last) != 0


def is_shown(f, g, told):
    """Whether what is told shows it, by the document's own words."""
    return outer_shown(f, g, *told[1:]) if told[0] == "outer" else none_shown(f, g, told[1])


def with_outer_ones():
    """Pairs that have common outer ones."""
    told = [(letter_to(m), letter_to(k)) for m, k in DEGREES]
    told += [(angles(m, r), angles(k, r)) for m, k in DEGREES for r in (1, Fraction(-2, 3))]
    for h in some_polys(171, 4, 1, 3):
        for m, k in ((1, 1), (2, 1), (1, 2), (2, 3), (3, 2)):
            if degree_of(h) * max(m, k) <= 6 and degree_of(h) * m * k <= 12:
                told.append((nested(letter_to(m), h), nested(letter_to(k), h)))
    # x ** 2 and x times p of x ** 2, the inner ones of the two ways of one exchange.
    for p in (((1, 1), 1), ((2, -3), 5)):
        told.append((nested(line(2, 5), letter_to(2)), nested(line(-3, 1), by_powers(1, p, 2)[1])))
    return told


def without():
    """Pairs that have none."""
    told = [
        (((0, 1, 1), 1), letter_to(2)), (letter_to(2), ((0, 1, 1), 1)), (((0, 1, 1), 1), letter_to(3)),
        (letter_to(3), ((0, 1, 0, 0, 1), 1)), (angles(3, 1), angles(3, 2)), (angles(3, 2), angles(4, 1)),
        (letter_to(4), nested(letter_to(6), line(1, 1))), (great_poly(1, 3), great_poly(2, 4)),
        (great_poly(3, 2), great_poly(4, 5)), (((0, 1, 0, 0, 0, 0, 1), 1), letter_to(6)),
    ]
    told += [(f, g) for f in some_polys(172, 5, 2, 4) for g in some_polys(173, 5, 2, 4)]
    return [(f, g) for f, g in told if common_outer(f, g)[0] == "none"]


class CommonOuter(unittest.TestCase):
    def assert_form(self, told):
        self.assertIs(type(told), tuple)
        if told[0] == "outer":
            self.assertEqual(len(told), 3)
        else:
            self.assertEqual((told[0], len(told), type(told[1])), ("none", 2, tuple))
            for r in told[1]:
                self.assertEqual(r, pair(Fraction(*r)))

    def assert_told(self, f, g, word):
        told = common_outer(f, g)
        self.assert_form(told)
        self.assertEqual(told[0], word, (f, g))
        self.assertTrue(is_shown(f, g, told), (f, g, told))
        self.assertIs(outer_holds(f, g, told), True)
        return told

    def test_known_ones(self):
        self.assertEqual(common_outer(letter_to(2), letter_to(3)), ("outer", letter_to(3), letter_to(2)))
        self.assertEqual(common_outer(((1, 1), 1), ((3, 2), 1)), ("outer", ((1, 2), 2), ((0, 1), 2)))
        self.assertEqual(common_outer(angles(2, 1), angles(3, 1)), ("outer", ((2, -3, 0, 1), 1), letter_to(2)))
        self.assertEqual(common_outer(letter_to(2), ((0, 1, 0, 1), 1)), ("outer", ((0, 1, 2, 1), 1), letter_to(2)))

    def test_those_that_have_them(self):
        for f, g in with_outer_ones():
            self.assert_told(f, g, "outer")

    def test_powers_between_straight_ones(self):
        for m, k in DEGREES:
            for l1 in LINES:
                for l2 in LINES:
                    f, g = nested(l1, letter_to(m), line(2, 3)), nested(l2, letter_to(k), line(2, 3))
                    self.assert_told(f, g, "outer")

    def test_outer_ones_put_on_one_inner_one(self):
        for u in some_polys(174, 4, 1, 2):
            for h in some_polys(175, 4, 1, 3):
                f = nested(u, h)
                told = self.assert_told(f, h, "outer")
                self.assertEqual((degree_of(told[1]), degree_of(told[2])), (1, degree_of(u)))
                self.assert_told(h, f, "outer")

    def test_the_same_one_twice(self):
        for f in some_polys(176, 12, 1, 6) + [great_poly(5, 6)]:
            u, v = self.assert_told(f, f, "outer")[1:]
            self.assertEqual((u, v), (X, X) if at(f, 0) == 0 else (u, v))
            self.assertEqual((degree_of(u), degree_of(v)), (1, 1))

    def test_degree_one(self):
        for l in LINES + [great_poly(6, 1)]:
            for f in LINES + some_polys(177, 6, 1, 6) + [great_poly(7, 6)]:
                self.assert_told(l, f, "outer")
                self.assert_told(f, l, "outer")

    def test_those_that_have_none(self):
        self.assertGreater(len(without()), 20)
        for f, g in without():
            told = self.assert_told(f, g, "none")
            self.assertEqual(len(told[1]), least(f, g) + 1)
            self.assert_told(g, f, "none")

    def test_one_has_them_where_the_other_way_about_has(self):
        for f in some_polys(178, 8, 1, 4):
            for g in some_polys(179, 8, 1, 4):
                self.assertEqual(common_outer(f, g)[0], common_outer(g, f)[0])

    def test_one_fraction_changed(self):
        for f, g in ((letter_to(2), letter_to(3)), (angles(3, 2), angles(4, 2)), (letter_to(4), letter_to(6))):
            for k in range(1, degree_of(g)):
                # Of x ** 2 and x ** 3 with x there are some still, and so with x ** 2 within both.
                word = "outer" if (f, k) in ((letter_to(2), 1), (letter_to(4), 2)) else "none"
                self.assert_told(f, changed(g, k), word)

    def test_like_degrees_have_them_just_where_straight_ones_do(self):
        for f in some_polys(180, 8, 1, 6):
            for g in [nested(l, f) for l in LINES] + some_polys(181, 6, 1, 6):
                if degree_of(g) == degree_of(f):
                    alike = degree_of(common_inner(f, g)[0]) == degree_of(f)
                    self.assert_told(f, g, "outer" if alike else "none")

    def test_forty_figures(self):
        h = great_poly(8, 3)
        self.assert_told(put(great_poly(9, 2), h), put(great_poly(10, 1), h), "outer")
        self.assert_told(nested(great_poly(11, 1), letter_to(3), great_poly(13, 1)),
                         nested(great_poly(12, 1), letter_to(4), great_poly(13, 1)), "outer")
        for m, k in ((3, 4), (4, 3), (6, 4), (5, 2), (6, 6)):
            self.assert_told(great_poly(m, m), great_poly(k + 50, k), "none")

    def test_asked_again_the_same_and_nothing_changed(self):
        for f, g in with_outer_ones()[:5] + without()[:5]:
            kept = (tuple(f), tuple(g))
            self.assertEqual(common_outer(f, g), common_outer(f, g))
            self.assertEqual((f, g), kept)


class Holds(unittest.TestCase):
    @classmethod
    def setUpClass(cls):
        cls.have = [(f, g, common_outer(f, g)) for f, g in with_outer_ones()]
        cls.none = [(f, g, common_outer(f, g)) for f, g in without()]

    def refuse(self, f, g, told):
        self.assertIs(outer_holds(f, g, told), False, (f, g, told))

    def judge(self, f, g, told):
        """Holds what the checker says against the document's own words."""
        self.assertIs(outer_holds(f, g, told), is_shown(f, g, told), (f, g, told))

    def test_what_is_told(self):
        for f, g, told in self.have + self.none:
            self.assertIs(outer_holds(f, g, told), True)

    def test_written_by_hand(self):
        self.assertIs(outer_holds(letter_to(2), letter_to(3), ("outer", letter_to(3), letter_to(2))), True)
        self.refuse(letter_to(2), letter_to(3), ("outer", letter_to(2), letter_to(3)))
        # Of x ** 2 + x and x ** 2: x has the weight, which x ** 2 and 1 don't have.
        f, g = ((0, 1, 1), 1), letter_to(2)
        self.assertIs(outer_holds(f, g, ("none", ((0, 1), (1, 1), (0, 1)))), True)
        self.assertIs(outer_holds(f, g, ("none", ((0, 1), (-3, 7), (0, 1)))), True)
        self.refuse(f, g, ("none", ((1, 1), (1, 1), (0, 1))))
        self.refuse(f, g, ("none", ((0, 1), (1, 1), (1, 1))))
        self.refuse(f, g, ("none", ((0, 1), (0, 1), (0, 1))))

    def test_a_fraction_otherwise(self):
        for f, g, (word, u, v) in self.have:
            for k in range(degree_of(u) + 1):
                self.refuse(f, g, (word, changed(u, k), v))
            for k in range(degree_of(v) + 1):
                self.refuse(f, g, (word, u, changed(v, k)))

    def test_another_lead(self):
        for f, g, (word, u, v) in self.have:
            # Both come to the same still, but for u's lead.
            for r in (2, -1, Fraction(3, 5)):
                other_u, other_v = nested(line(r, 0), u), nested(line(r, 0), v)
                self.assertEqual(nested(other_u, f), nested(other_v, g))
                self.refuse(f, g, (word, other_u, other_v))

    def test_another_fraction_at_nought(self):
        for f, g, (word, u, v) in self.have:
            other_u, other_v = nested(line(1, 5), u), nested(line(1, 5), v)
            self.assertEqual(nested(other_u, f), nested(other_v, g))
            self.refuse(f, g, (word, other_u, other_v))

    def test_another_degree(self):
        for f, g, (word, u, v) in self.have:
            other_u, other_v = nested(letter_to(2), u), nested(letter_to(2), v)
            self.assertEqual(nested(other_u, f), nested(other_v, g))
            for told in ((other_u, other_v), (u, other_v), (other_u, v), (NOUGHT, NOUGHT), (number(1), number(1))):
                self.refuse(f, g, (word,) + told)
            self.refuse(f, g, (word, u, NOUGHT))
            self.refuse(f, g, (word, NOUGHT, v))

    def test_changed_about(self):
        refused = 0
        for f, g, (word, u, v) in self.have:
            self.judge(f, g, (word, v, u))
            self.judge(g, f, (word, u, v))
            refused += not is_shown(f, g, (word, v, u))
        self.assertGreater(refused, 20)

    def test_a_weight_otherwise(self):
        refused = 0
        for f, g, (word, weights) in self.none:
            for k, weight in enumerate(weights):
                for other in (Fraction(*weight) + Fraction(1, 3), Fraction(0), -2 * Fraction(*weight) + 1):
                    told = (word, with_one(weights, k, pair(other)))
                    self.judge(f, g, told)
                    refused += not is_shown(f, g, told)
        self.assertGreater(refused, 200)

    def test_weights_scaled(self):
        for f, g, (word, weights) in self.none:
            for r in (2, Fraction(-1, 3), Fraction(7, 10 ** 39)):
                scaled = tuple(pair(Fraction(*weight) * r) for weight in weights)
                self.assertIs(outer_holds(f, g, (word, scaled)), True)

    def test_more_and_fewer_weights(self):
        for f, g, (word, weights) in self.none:
            for some in (weights + ((0, 1),), weights + ((1, 1),), weights[:-1], weights[1:], (), ((0, 1),) + weights,
                         weights + ((0, 1),) * (24 - len(weights))):
                self.refuse(f, g, (word, some))

    def test_fewer_weights_where_the_last_is_nought(self):
        f, g = ((0, 1, 1), 1), letter_to(2)
        self.refuse(f, g, ("none", ((0, 1), (1, 1))))
        self.refuse(f, g, ("none", ((0, 1), (1, 1), (0, 1), (0, 1))))

    def test_all_noughts(self):
        for f, g, told in self.have + self.none:
            self.refuse(f, g, ("none", ((0, 1),) * (least(f, g) + 1)))

    def test_outer_ones_where_weights_are_due(self):
        for f, g, told in self.none:
            most = least(f, g)
            m, k = most // degree_of(f), most // degree_of(g)
            self.refuse(f, g, ("outer", letter_to(m), letter_to(k)))
            self.refuse(f, g, ("outer", angles(m, 1), nested(line(1, -at(angles(k, 1), 0)), angles(k, 1))))

    def test_weights_where_outer_ones_are_due(self):
        for f, g, told in self.have:
            most = least(f, g)
            for k in range(most + 1):
                self.refuse(f, g, ("none", with_one(((0, 1),) * (most + 1), k, (1, 1))))
            self.refuse(f, g, ("none", ((1, 1),) * (most + 1)))
            for other, another, (word, weights) in self.none:
                self.refuse(f, g, (word, weights))

    def test_each_power_is_looked_at(self):
        # Weights that fail at one power of f or g alone: 1, f, g and the last one.
        f, g = ((0, 1, 1), 1), ((0, 0, 1, 0, 1), 1)
        word, weights = common_outer(f, g)
        self.assertEqual(word, "none")
        self.refuse(f, g, (word, with_one(weights, 0, pair(Fraction(*weights[0]) + 1))))
        self.assertIs(outer_holds(f, f, ("none", weights)), False)
        self.assertIs(outer_holds(g, g, ("none", weights)), False)

    def test_another_word(self):
        for f, g, told in self.have[:5] + self.none[:5]:
            for word in ("outer", "none", "", "weights"):
                if word != told[0]:
                    self.refuse(f, g, (word,) + told[1:])

    def test_those_of_others(self):
        for rows in (self.have, self.none):
            for (f, g, told), (other, another, its) in zip(rows, rows[1:]):
                self.judge(f, g, its)

    def test_nothing_is_changed(self):
        for f, g, told in self.have[:3] + self.none[:3]:
            kept = tuple(told)
            self.assertIs(outer_holds(f, g, told), outer_holds(f, g, told))
            self.assertEqual(told, kept)


if __name__ == "__main__":
    unittest.main()
