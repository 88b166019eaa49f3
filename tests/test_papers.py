import unittest
from fractions import Fraction

from nestwright.apart import inner_degrees
from nestwright.chains import chains, together
from nestwright.inner import candidate, digits
from nestwright.papers import chain_holds, chain_papers, degrees_by, paper_holds, paper_of
from nestwright.puts import put
from tests.oracles import (
    NOUGHT, X, angles, changed, degree_of, digits_sum, great_poly, letter_to, line, listed, nested, number, poly_of,
    some_polys, with_one,
)

SAMPLES = some_polys(111, 25, 2, 12) + [
    letter_to(12), angles(12, 2), angles(8, -1), great_poly(1, 12), nested(great_poly(2, 3), great_poly(3, 4)),
]
SAMPLES += [nested(g, h) for g in some_polys(112, 4, 2, 4) for h in some_polys(113, 4, 2, 3)]
PRIMES = [f for n in (2, 3, 5, 7, 11) for f in (letter_to(n), great_poly(n, n), angles(n, 3))]
BARRED = ((0, 1, 0, 1, 0, 0, 0, 0, 0, 0, 5, 0, 2), 3)


def between(n):
    return [s for s in range(2, n) if n % s == 0]


class Papers(unittest.TestCase):
    def test_form(self):
        for f in SAMPLES:
            told = paper_of(f)
            self.assertIs(type(told), tuple)
            self.assertEqual([degree_of(h) for h, parts in told], between(degree_of(f)))
            for pair in told:
                self.assertIs(type(pair), tuple)
                self.assertEqual(len(pair), 2)
                self.assertIs(type(pair[1]), tuple)

    def test_it_holds(self):
        for f in SAMPLES + PRIMES:
            self.assertIs(paper_holds(f, paper_of(f)), True)

    def test_it_is_of_candidates_and_digits(self):
        for f in SAMPLES:
            for h, parts in paper_of(f):
                self.assertEqual(h, candidate(f, degree_of(h)))
                self.assertEqual(parts, digits(f, h))
                self.assertEqual(digits_sum(parts, h), f)

    def test_an_empty_one(self):
        for f in PRIMES:
            self.assertEqual(paper_of(f), ())
            self.assertIs(paper_holds(f, ()), True)
            self.assertEqual(degrees_by(f, ()), [1, degree_of(f)])
            self.assertIs(paper_holds(f, ((X, (f,)),)), False)
            self.assertIs(paper_holds(f, paper_of(letter_to(4))), False)

    def test_one_written_by_hand(self):
        f = ((0, 1, 0, 0, 1), 1)
        paper = ((letter_to(2), (X, NOUGHT, number(1))),)
        self.assertEqual(paper_of(f), paper)
        self.assertIs(paper_holds(f, paper), True)
        self.assertEqual(degrees_by(f, paper), [1, 4])

    def test_degrees(self):
        for f in SAMPLES + PRIMES:
            told = degrees_by(f, paper_of(f))
            self.assertIs(type(told), list)
            self.assertEqual(told, inner_degrees(f))
        self.assertEqual(degrees_by(letter_to(12), paper_of(letter_to(12))), [1, 2, 3, 4, 6, 12])

    def test_asked_again_the_same_and_the_list_is_the_askers_own(self):
        f = letter_to(6)
        paper = paper_of(f)
        first = degrees_by(f, paper)
        first.append(7)
        first[0] = 0
        self.assertEqual(degrees_by(f, paper), [1, 2, 3, 6])
        self.assertEqual(paper_of(f), paper)

    def test_what_was_told_is_handed_on(self):
        f = put(great_poly(4, 6), great_poly(5, 4))
        self.assertIs(paper_holds(f, paper_of(f)), True)
        self.assertEqual(degrees_by(f, paper_of(f)), [1, 4, 24])


class WrongPapers(unittest.TestCase):
    def cases(self):
        for f in SAMPLES + [BARRED]:
            paper = paper_of(f)
            for place in range(len(paper)):
                yield f, paper, place, paper[place][0], paper[place][1]

    def refuse(self, f, paper, place, pair):
        self.assertIs(paper_holds(f, with_one(paper, place, pair)), False, (f, place, pair))

    def test_a_fraction_of_h(self):
        for f, paper, place, h, parts in self.cases():
            for k in range(degree_of(h) + 2):
                self.refuse(f, paper, place, (changed(h, k), parts))

    def test_a_fraction_of_h_with_digits_that_fit_it(self):
        for f, paper, place, h, parts in self.cases():
            for k in range(degree_of(h) + 2):
                other = changed(h, k)
                self.refuse(f, paper, place, (other, digits(f, other)))

    def test_a_multiple_of_h_with_digits_that_fit_it(self):
        for f, paper, place, h, parts in self.cases():
            for l in (line(2, 0), line(-1, 0), line(1, 1), line(Fraction(1, 2), -3)):
                other = nested(l, h)
                self.refuse(f, paper, place, (other, digits(f, other)))

    def test_a_fraction_of_a_digit(self):
        for f, paper, place, h, parts in self.cases():
            for i, part in enumerate(parts):
                for k in range(degree_of(h) + 1):
                    others = parts[:i] + (changed(part, k),) + parts[i + 1:]
                    self.refuse(f, paper, place, (h, others))

    def test_a_pair_more_or_fewer(self):
        for f, paper, place, h, parts in self.cases():
            self.assertIs(paper_holds(f, paper[:place] + paper[place + 1:]), False)
            self.assertIs(paper_holds(f, paper[:place] + (paper[place],) + paper[place:]), False)
            self.assertIs(paper_holds(f, ((X, digits(f, X)),) + paper), False)
            whole = candidate(f, degree_of(f))
            self.assertIs(paper_holds(f, paper + ((whole, digits(f, whole)),)), False)
            self.assertIs(paper_holds(f, ()), False)

    def test_another_order(self):
        for f in (letter_to(12), angles(12, 2), BARRED, letter_to(6)):
            paper = paper_of(f)
            self.assertIs(paper_holds(f, paper[::-1]), False)
            self.assertIs(paper_holds(f, (paper[1], paper[0]) + paper[2:]), False)

    def test_h_of_another_degree(self):
        for f, paper, place, h, parts in self.cases():
            for other in (X, NOUGHT, number(1), letter_to(degree_of(h) + 1), letter_to(24), candidate(f, degree_of(f))):
                self.refuse(f, paper, place, (other, parts))
                if degree_of(other) >= 1:
                    self.refuse(f, paper, place, (other, digits(f, other)))

    def test_a_digit_of_too_great_a_degree(self):
        for f, paper, place, h, parts in self.cases():
            # The same sum, one of h taken out of a digit and put into the one below it.
            for i in range(len(parts) - 1):
                low = digits_sum((parts[i], number(1)), h)
                high = changed(parts[i + 1], 0, Fraction(-1))
                others = parts[:i] + (low, high) + parts[i + 2:]
                if others[-1] != NOUGHT:
                    self.assertEqual(digits_sum(others, h), f)
                self.refuse(f, paper, place, (h, others))
            self.refuse(f, paper, place, (h, (f,)))
            self.refuse(f, paper, place, (h, parts[:-1] + (letter_to(24),)))

    def test_a_nought_at_the_end(self):
        for f, paper, place, h, parts in self.cases():
            self.refuse(f, paper, place, (h, parts + (NOUGHT,)))
            self.refuse(f, paper, place, (h, parts + (NOUGHT,) * (13 - len(parts))))

    def test_no_digits_at_all_or_too_few_or_too_many(self):
        for f, paper, place, h, parts in self.cases():
            self.refuse(f, paper, place, (h, ()))
            self.refuse(f, paper, place, (h, (NOUGHT,)))
            self.refuse(f, paper, place, (h, parts[:-1]))
            self.refuse(f, paper, place, (h, parts[1:]))
            self.refuse(f, paper, place, (h, parts + (number(1),)))
            if parts != parts[::-1]:
                self.refuse(f, paper, place, (h, parts[::-1]))

    def test_another_h_with_its_own_digits(self):
        for f, paper, place, h, parts in self.cases():
            for other in (letter_to(degree_of(h)), poly_of([0] + [1] * degree_of(h))):
                if other != h:
                    self.refuse(f, paper, place, (other, parts))
                    self.refuse(f, paper, place, (other, digits(f, other)))

    def test_the_paper_of_another(self):
        for f in SAMPLES:
            paper = paper_of(f)
            if paper:
                for k in range(degree_of(f) + 1):
                    other = changed(f, k, Fraction(1, 7))
                    if degree_of(other) == degree_of(f):
                        self.assertIs(paper_holds(other, paper), False)
                self.assertIs(paper_holds(nested(f, line(1, 1)), paper), False)
                self.assertIs(paper_holds(nested(line(2, 0), f), paper), False)

    def test_great_numbers_in_a_wrong_one(self):
        f = letter_to(6)
        paper = paper_of(f)
        great = great_poly(1, 2, 100)
        self.refuse(f, paper, 0, (great, paper[0][1]))
        self.refuse(f, paper, 0, (paper[0][0], (great_poly(2, 1, 100),) * 13))
        self.refuse(f, paper, 0, (great_poly(3, 24, 100), (great_poly(4, 24, 100),) * 13))

    def test_nothing_is_changed(self):
        paper = paper_of(BARRED)
        kept = tuple((h, tuple(parts)) for h, parts in paper)
        paper_holds(BARRED, paper)
        paper_holds(letter_to(12), paper)
        self.assertEqual(paper, kept)


WHOLE = [chain for f in (letter_to(12), angles(12, 2), BARRED, letter_to(7)) for chain in chains(f)]
WHOLE += [chains(nested(g, h))[0] for g in some_polys(114, 3, 2, 4) for h in some_polys(115, 3, 2, 3)]
WHOLE += [(((0, 1, 0, 0, 1), 1), ((5, 0, 1), 3)), (((1, 0, 2), 1), ((1, 1, 1, 0, 1), 3))]
WHOLE += chains(nested(great_poly(6, 3), great_poly(7, 4)))


class ChainPapers(unittest.TestCase):
    def test_a_paper_for_each_layer(self):
        for chain in WHOLE:
            papers = chain_papers(chain)
            self.assertIs(type(papers), tuple)
            self.assertEqual(len(papers), len(chain))
            for layer, paper in zip(chain, papers):
                self.assertIs(paper_holds(layer, paper), True)

    def test_they_hold(self):
        for chain in WHOLE:
            self.assertIs(chain_holds(nested(*chain), chain, chain_papers(chain)), True)

    def test_some_papers_are_not_empty(self):
        self.assertTrue(any(paper for chain in WHOLE for paper in chain_papers(chain)))

    def test_chains_that_are_not_neat_may_hold(self):
        chain = (nested(letter_to(2), line(2, 1)), nested(line(Fraction(1, 2), Fraction(-1, 2)), ((0, 1, 0, 0, 1), 1)))
        self.assertIs(chain_holds(nested(*chain), chain, chain_papers(chain)), True)

    def test_a_layer_that_can_be_taken_apart(self):
        for chain in ((letter_to(4),), (letter_to(2), letter_to(6)), (angles(4, 1), letter_to(3))):
            papers = chain_papers(chain)
            self.assertTrue(all(paper_holds(layer, paper) for layer, paper in zip(chain, papers)))
            self.assertIs(chain_holds(nested(*chain), chain, papers), False)

    def test_whether_a_chain_is_whole(self):
        for g in some_polys(116, 5, 2, 6):
            for h in some_polys(117, 5, 2, 2):
                chain = (g, h)
                due = inner_degrees(g) == [1, degree_of(g)]
                self.assertIs(chain_holds(nested(*chain), chain, chain_papers(chain)), due)

    def test_too_few_or_too_many_papers(self):
        for chain in WHOLE:
            f, papers = nested(*chain), chain_papers(chain)
            self.assertIs(chain_holds(f, chain, papers[:-1]), False)
            self.assertIs(chain_holds(f, chain, ()), False)
            self.assertIs(chain_holds(f, chain, papers + ((),)), False)
            self.assertIs(chain_holds(f, chain, papers + papers[:1]), False)

    def test_another_f(self):
        for chain in WHOLE:
            f, papers = nested(*chain), chain_papers(chain)
            for k in range(degree_of(f) + 2):
                self.assertIs(chain_holds(changed(f, k, Fraction(1, 9)), chain, papers), False)
            self.assertIs(chain_holds(chain[0], chain, papers), len(chain) == 1)

    def test_another_layer(self):
        for chain in WHOLE:
            f, papers = nested(*chain), chain_papers(chain)
            for i, layer in enumerate(chain):
                for k in range(degree_of(layer)):
                    other = chain[:i] + (changed(layer, k),) + chain[i + 1:]
                    self.assertIs(chain_holds(f, other, papers), False)

    def test_a_paper_that_does_not_hold(self):
        chain = (letter_to(2), ((0, 1, 0, 0, 1), 1))
        f, papers = nested(*chain), chain_papers(chain)
        self.assertIs(chain_holds(f, chain, papers), True)
        h, parts = papers[1][0]
        for other in (((), ()), (papers[1], ()), (papers[1], papers[1]), ((), papers[1] * 2)):
            self.assertIs(chain_holds(f, chain, other), False)
        for pair in ((h, ()), (h, parts + (NOUGHT,)), (h, (changed(parts[0], 0),) + parts[1:]), (X, parts)):
            self.assertIs(chain_holds(f, chain, ((), (pair,))), False)

    def test_papers_in_another_order(self):
        chain = (((0, 1, 0, 0, 1), 1), ((5, 0, 1), 3))
        papers = chain_papers(chain)
        self.assertIs(chain_holds(nested(*chain), chain, papers), True)
        self.assertIs(chain_holds(nested(*chain), chain, papers[::-1]), False)

    def test_those_of_chains_told(self):
        f = put(great_poly(8, 3), put(great_poly(9, 2), great_poly(10, 2)))
        for chain in chains(f):
            self.assertIs(chain_holds(f, chain, chain_papers(chain)), True)
            self.assertEqual(together(chain), f)


if __name__ == "__main__":
    unittest.main()
