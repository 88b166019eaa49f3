"""What the document promises over the whole program: its points 1, 2, 3, and its interface."""

import copy
import importlib
import inspect
import unittest
from fractions import Fraction
from itertools import product
from math import gcd, lcm

from nestwright.apart import apart, inner_degrees, inner_one
from nestwright.chains import chains, neat, together
from nestwright.chaintexts import chain_text, read_chain
from nestwright.common import common_inner
from nestwright.desk import answered
from nestwright.errors import NestError
from nestwright.exchanges import exchanged, led
from nestwright.halves import again_roots
from nestwright.kinds import kind, kind_holds
from nestwright.looks import look
from nestwright.outer import common_outer, outer_holds
from nestwright.papers import chain_holds, chain_papers, degrees_by, paper_holds, paper_of
from nestwright.polys import degree, value
from nestwright.polytexts import poly_text, read_poly
from nestwright.reckontexts import read_reckoning, reckoning_text
from nestwright.roads import road
from nestwright.sums import solved
from nestwright.works import valued, worked
from tests.oracles import (
    X, angles, at, by_powers, changed, degree_of, degrees, great_poly, is_neat, letter_to, line, line_back, listed,
    nested, pair, poly_of, power_of, some_polys, some_reckonings, value_at,
)

LINES = [line(-1, 0), line(3, 1), line(Fraction(-2, 7), Fraction(5, 3)), line(1, -4)]
SQUARE, CUBE = letter_to(2), letter_to(3)

LAYERED = [
    "f = (+ (^ x 2) 1)\ng = (- (^ x 3) x)\nh = (of f g)",
    "f = (* x (+ x 1/2))\ng = (again f 3)",
    "f = (^ x 6)\ng = (of (+ (* 2 x) 1) f)\nh = (of g (- x 3))",
    "a = (- (^ x 2) 2)\nb = (- (^ x 3) (* 3 x))\nc = (of a (of b a))",
    "p = (* x (^ (+ x 1) 2))\nq = (of p (^ x 2))\nr = (of q (+ (* -1/3 x) 2))",
    "p = (+ (^ x 2) x)\nq = (of (of p (^ x 3)) (+ x 5))",
]

# Each function of the interface: its module, its name, and things that it may be asked with.
F, G = ((0, 0, 1, 0, 2, 0, 1), 1), ((1, 0, 0, 0, 3), 2)
RECKONING = (("f", ("plus", ("power", ("x",), 2), ("number", (1, 2)))), ("g", ("again", ("name", "f"), 2)))
CHAIN, OTHER = (SQUARE, ((0, 1, 0, 1), 1)), (((0, 1, 2, 1), 1), SQUARE)
ASKED = [
    ("fractions", "fraction", (6, -4)), ("fractions", "added", ((1, 2), (1, 3))),
    ("fractions", "taken", ((1, 2), (1, 3))), ("fractions", "multiplied", ((1, 2), (2, 3))),
    ("fractions", "divided", ((1, 2), (-1, 3))),
    ("polys", "poly", ([(1, 2), (0, 1), (3, 4), (0, 1)],)), ("polys", "fraction_at", (F, 4)), ("polys", "degree", (F,)),
    ("polys", "lead", (G,)), ("polys", "plus", (F, G)), ("polys", "minus", (F, G)), ("polys", "times", (F, G)),
    ("polys", "scaled", (F, (1, 3))), ("polys", "power", (G, 3)), ("polys", "value", (F, (2, 3))),
    ("puts", "put", (F, G)), ("puts", "again", (G, 2)),
    ("polytexts", "fraction_text", ((-3, 2),)), ("polytexts", "poly_text", (F,)),
    ("polytexts", "read_fraction", ("-3/2",)), ("polytexts", "read_poly", ("x^2 - 1/2",)),
    ("reckontexts", "reckoning_text", (RECKONING,)), ("reckontexts", "read_reckoning", ("f = x",)),
    ("looks", "look", (RECKONING,)), ("looks", "reaches", (RECKONING,)),
    ("works", "worked", (RECKONING,)), ("works", "valued", (RECKONING, (1, 3))),
    ("rootsof", "roots", ((4, 9), 2)), ("straights", "straight", ((2, 1), (1, 3))),
    ("straights", "turned_back", (((1, 2), 3),)),
    ("plains", "plain", (F,)), ("plains", "leaves", (F,)), ("plains", "alike", (F, F)),
    ("inner", "candidate", (F, 2)), ("inner", "digits", (F, SQUARE)),
    ("apart", "apart", (F, 3)), ("apart", "inner_degrees", (F,)), ("apart", "inner_one", (F, 2)),
    ("chains", "together", (CHAIN,)), ("chains", "neat", (CHAIN,)), ("chains", "chains", (F,)),
    ("papers", "paper_of", (G,)), ("papers", "paper_holds", (G, paper_of(G))),
    ("papers", "degrees_by", (G, paper_of(G))), ("papers", "chain_papers", (CHAIN,)),
    ("papers", "chain_holds", (F, CHAIN, chain_papers(CHAIN))),
    ("exchanges", "exchanged", (CHAIN, 0)), ("exchanges", "led", (CHAIN, [0, 0])), ("roads", "road", (CHAIN, OTHER)),
    ("turned", "turned", (5, (2, 3))), ("kinds", "kind", CHAIN),
    ("kinds", "kind_holds", CHAIN + OTHER + (kind(*CHAIN),)),
    ("sums", "solved", (((((1, 1), (2, 1)), (3, 1)),),)), ("common", "common_inner", (F, G)),
    ("outer", "common_outer", (SQUARE, CUBE)), ("outer", "outer_holds", (SQUARE, CUBE, ("outer", CUBE, SQUARE))),
    ("halves", "again_roots", (letter_to(9), 2)),
    ("chaintexts", "chain_text", (CHAIN,)), ("chaintexts", "read_chain", ("x^2 of x^3 + x",)),
    ("desk", "answered", ("chains x^12",)),
]


def function_of(module, name):
    return getattr(importlib.import_module("nestwright." + module), name)


def spoiled(told):
    """Does to a list or a dict that was told whatever can be done to it."""
    if isinstance(told, list):
        told.append("more")
        told[0] = "other"
        told.reverse()
    elif isinstance(told, dict):
        told["more"] = told.popitem()


class Interface(unittest.TestCase):
    def test_each_is_there_with_its_arguments(self):
        for module, name, arguments in ASKED:
            found = inspect.signature(function_of(module, name)).parameters.values()
            self.assertEqual(len(found), len(arguments), name)
            self.assertTrue(all(one.default is inspect.Parameter.empty for one in found), name)

    def test_all_are_asked_here(self):
        self.assertEqual(len(ASKED), 60)
        self.assertEqual(len({(module, name) for module, name, arguments in ASKED}), 60)

    def test_asked_again_each_tells_the_same(self):
        for module, name, arguments in ASKED:
            asked = function_of(module, name)
            self.assertEqual(asked(*arguments), asked(*arguments), name)

    def test_nothing_handed_in_is_changed(self):
        for module, name, arguments in ASKED:
            kept = copy.deepcopy(arguments)
            function_of(module, name)(*arguments)
            self.assertEqual(arguments, kept, name)

    def test_what_is_told_is_the_askers_own(self):
        for module, name, arguments in ASKED:
            asked = function_of(module, name)
            first = asked(*arguments)
            kept = copy.deepcopy(first)
            spoiled(first)
            self.assertEqual(asked(*arguments), kept, name)

    def test_what_is_done_later_to_what_was_handed_in_changes_nothing(self):
        for module, name, arguments in ASKED:
            if any(isinstance(one, list) for one in arguments):
                told = function_of(module, name)(*arguments)
                kept = copy.deepcopy(told)
                handed = copy.deepcopy(arguments)
                again_told = function_of(module, name)(*handed)
                for one in handed:
                    spoiled(one)
                self.assertEqual(again_told, kept)

    def test_lists_are_told_where_lists_are_promised(self):
        lists = {"roots", "leaves", "inner_degrees", "chains", "degrees_by", "road", "again_roots"}
        for module, name, arguments in ASKED:
            told = function_of(module, name)(*arguments)
            self.assertEqual(isinstance(told, list), name in lists, name)
            self.assertEqual(isinstance(told, dict), name == "reaches", name)
            truth = name in ("look", "paper_holds", "chain_holds", "kind_holds", "outer_holds")
            self.assertEqual(isinstance(told, bool), truth, name)

    def test_refusals_are_of_one_class(self):
        for module, name, argument in (
            ("polytexts", "read_fraction", "1/0"), ("polytexts", "read_poly", "y"), ("reckontexts", "read_reckoning", "f"),
            ("looks", "look", (("f", ("name", "g")),)), ("chaintexts", "read_chain", "x"), ("desk", "answered", "x"),
        ):
            with self.assertRaises(NestError):
                function_of(module, name)(argument)


class Reckonings(unittest.TestCase):
    def test_at_each_fraction_it_is_what_its_layers_come_to(self):
        rows = [read_reckoning(text) for text in LAYERED] + some_reckonings(231, 200)
        many = 0
        for reckoning in rows:
            try:
                look(reckoning)
            except NestError:
                continue
            many += 1
            f = worked(reckoning)
            for r in ((0, 1), (1, 1), (-2, 3), (5, 2)):
                self.assertEqual(valued(reckoning, r), value(f, r))
                self.assertEqual(Fraction(*valued(reckoning, r)), value_at(listed(f), Fraction(*r)))
        self.assertGreater(many, 50)

    def test_worked_out_taken_apart_written_read_and_asked(self):
        for text in LAYERED:
            reckoning = read_reckoning(text)
            self.assertEqual(reckoning_text(reckoning), text)
            self.assertIs(look(reckoning), True)
            f = worked(reckoning)
            told = chains(f)
            self.assertGreaterEqual(len(told[0]), 2)
            for chain in told:
                self.assertEqual(read_chain(chain_text(chain)), chain)
                self.assertEqual(together(chain), f)
                inner = (4, 3)
                for layer in reversed(chain):
                    inner = value(layer, inner)
                self.assertEqual(inner, valued(reckoning, (4, 3)))
            row = "chains " + poly_text(f)
            self.assertEqual(answered(row), " | ".join(chain_text(chain) for chain in told))
            self.assertEqual([read_chain(part) for part in answered(row).split(" | ")], told)
            self.assertEqual(answered("degrees " + poly_text(f)), " ".join(map(str, inner_degrees(f))))

    def test_the_desk_puts_together_what_it_took_apart(self):
        for text in LAYERED:
            f = poly_text(worked(read_reckoning(text)))
            for s in answered("degrees " + f).split(" "):
                made = answered(f"apart {s} {f}")
                self.assertTrue(made.startswith("made "))
                self.assertEqual(answered("put " + made[len("made "):]), f)


class WholeChains(unittest.TestCase):
    def samples(self):
        told = [letter_to(12), angles(12, 2), nested(LINES[1], angles(12, Fraction(-3, 5)), LINES[2]), letter_to(6)]
        told += [worked(read_reckoning(text)) for text in LAYERED]
        told += [nested(g, h) for g in some_polys(232, 3, 2, 4) for h in some_polys(233, 3, 2, 3)]
        return told + some_polys(234, 10, 2, 12) + [nested(by_powers(1, ((1, 1), 1), 3)[0], CUBE)]

    def test_all_there_are_but_for_straight_ones(self):
        for f in self.samples():
            told = chains(f)
            for chain in told:
                for l, other in zip(LINES, LINES[1:]):
                    moved = list(chain)
                    for i in range(len(chain) - 1):
                        l, other = other, l
                        moved[i] = nested(moved[i], l)
                        moved[i + 1] = nested(line_back(l), moved[i + 1])
                    self.assertEqual(nested(*moved), f)
                    self.assertEqual(neat(tuple(moved)), chain)
            self.assertEqual(len(set(told)), len(told))

    def test_layers_of_any_whole_chain_are_found(self):
        layers = [f for f in some_polys(235, 40, 2, 4) if inner_degrees(f) == [1, degree_of(f)]][:12]
        for g, h in product(layers, layers):
            if degree_of(g) * degree_of(h) <= 12:
                self.assertIn(neat((g, h)), chains(nested(g, h)))

    def test_each_layer_is_shown_no_more_to_be_taken_apart(self):
        for f in self.samples():
            for chain in chains(f):
                self.assertTrue(is_neat(chain))
                papers = chain_papers(chain)
                self.assertIs(chain_holds(f, chain, papers), True)
                for layer, paper in zip(chain, papers):
                    self.assertIs(paper_holds(layer, paper), True)
                    self.assertEqual(degrees_by(layer, paper), [1, degree_of(layer)])
                    for h, parts in paper:
                        self.assertEqual(apart(layer, degree_of(h))[:2], ("barred", h))

    def test_papers_of_a_chain_that_is_not_whole_are_not_let_by(self):
        for f in (letter_to(12), letter_to(4), angles(9, 2), nested(((1, 2, 3), 1), ((0, 1, 1), 1))):
            self.assertIs(chain_holds(f, (f,), (paper_of(f),)), False)
            self.assertIs(chain_holds(f, (f,), ((),)), False)

    def test_as_many_layers_of_the_same_degrees(self):
        for f in self.samples():
            self.assertEqual(len({tuple(sorted(degrees(chain))) for chain in chains(f)}), 1)

    def test_each_is_led_to_each_other_by_exchanges_of_two_kinds(self):
        steps = 0
        for f in self.samples():
            for chain, other in product(chains(f), chains(f)):
                now = chain
                for i in road(chain, other):
                    following = exchanged(now, i)
                    a, b, c, d = now[i:i + 2] + following[i:i + 2]
                    self.assertEqual(nested(a, b), nested(c, d))
                    self.assertEqual(gcd(degree_of(a), degree_of(b)), 1)
                    told = kind(a, b)
                    self.assertIn(told[0][0], ("powers", "turned"))
                    self.assertIs(kind_holds(a, b, c, d, told), True)
                    now = following
                    steps += 1
                self.assertEqual(now, other)
                self.assertEqual(led(chain, road(chain, other)), other)
        self.assertGreater(steps, 30)


def outer_sums(f, g, many):
    """The sums by which a power of f, with lesser ones, comes to powers of g, for many least common multiples."""
    most = lcm(degree_of(f), degree_of(g)) * many
    below = [power_of(listed(f), i) for i in range(most // degree_of(f))]
    others = [power_of(listed(g), j) for j in range(1, most // degree_of(g) + 1)]
    last = poly_of(power_of(listed(f), most // degree_of(f)))
    unknown = [poly_of(p) for p in below + others]
    return tuple(
        (tuple(pair(at(p, k)) for p in unknown), pair(at(last, k))) for k in range(most + 1)
    )


class CommonOnes(unittest.TestCase):
    def test_outer_ones_of_any_degree_tell_that_there_are_such_of_the_least(self):
        for u in some_polys(236, 4, 1, 3):
            for v in some_polys(237, 3, 1, 2):
                for h in some_polys(238, 3, 1, 2):
                    f, g = nested(v, h), nested(u, h)
                    if max(degree_of(f), degree_of(g)) <= 6 and lcm(degree_of(f), degree_of(g)) <= 12:
                        told = common_outer(f, g)
                        word, some = solved(outer_sums(f, g, 2))
                        self.assertEqual(word == "numbers", told[0] == "outer")
                        self.assertIs(outer_holds(f, g, told), True)

    def test_where_there_are_none_there_are_none_of_greater_degree(self):
        none = 0
        for f in some_polys(239, 6, 2, 3) + [SQUARE, CUBE, ((0, 1, 1), 1)]:
            for g in some_polys(240, 6, 2, 3) + [SQUARE, CUBE, ((0, 1, 1, 1), 1)]:
                told = common_outer(f, g)
                self.assertIs(outer_holds(f, g, told), True)
                for many in (1, 2):
                    self.assertEqual(solved(outer_sums(f, g, many))[0], "weights" if told[0] == "none" else "numbers")
                none += told[0] == "none"
        self.assertGreater(none, 20)

    def test_of_inner_ones_the_greatest_is_told_and_all_others_lie_within(self):
        pairs = [(letter_to(12), letter_to(8)), (angles(12, 2), angles(6, 2)), (angles(8, 1), letter_to(8))]
        pairs += [(nested(p, h), nested(q, h)) for h in some_polys(241, 3, 2, 4) for p, q in ((SQUARE, CUBE), (X, SQUARE))]
        for f, g in pairs:
            h, p, q = common_inner(f, g)
            self.assertEqual((nested(p, h), nested(q, h)), (f, g))
            for s in inner_degrees(f):
                if s in inner_degrees(g) and inner_one(f, s) == inner_one(g, s):
                    self.assertLessEqual(s, degree_of(h))
                    self.assertIn(s, inner_degrees(h))
                    self.assertEqual(inner_one(h, s), inner_one(f, s))


class PutInAgain(unittest.TestCase):
    def test_all_are_told(self):
        for s, k in ((2, 2), (2, 3), (2, 4), (3, 2), (4, 2)):
            for h in some_polys(242 + s * k, 6, s, s) + [letter_to(s), angles(s, 1)]:
                f = nested(*[h] * k)
                told = again_roots(f, k)
                self.assertIn(h, told)
                self.assertTrue(all(nested(*[one] * k) == f for one in told))
                self.assertLessEqual(len(told), 2)
                self.assertEqual(answered(f"again {k} {poly_text(f)}"), " | ".join(poly_text(one) for one in told))
                self.assertEqual(again_roots(changed(f, 0), k), [])


class Bounds(unittest.TestCase):
    def test_forty_figures_go_through_the_whole(self):
        g, h = great_poly(1, 3), great_poly(2, 4)
        f = nested(g, h)
        chain = chains(f)[0]
        self.assertEqual(degrees(chain), [3, 4])
        self.assertEqual(chain, neat((g, h)))
        self.assertIs(chain_holds(f, chain, chain_papers(chain)), True)
        self.assertIsNone(kind(*chain))
        self.assertEqual(common_inner(f, h)[0], chain[1])
        self.assertEqual(degree(common_outer(g, nested(line(2, 1), g))[1]), 1)

    def test_texts_told_of_greater_numbers_are_refused(self):
        f = nested(great_poly(1, 3), great_poly(2, 4))
        with self.assertRaises(NestError):
            read_poly(poly_text(f))
        with self.assertRaises(NestError):
            read_chain(chain_text((f,)))
        with self.assertRaises(NestError):
            answered("degrees " + poly_text(f))


if __name__ == "__main__":
    unittest.main()
