import random
import unittest
from fractions import Fraction

from nestwright.sums import solved
from tests.oracles import pair

NOUGHT, ONE = (0, 1), (1, 1)


def sums(*rows):
    """Sums of rows of numbers, the due last."""
    return tuple((tuple(pair(r) for r in row[:-1]), pair(row[-1])) for row in rows)


def some_sums(source, rows, many, most, bottoms):
    """Sums of any numbers up to most, over such bottoms."""
    def number():
        return Fraction(source.randint(-most, most), source.randint(1, bottoms))
    return sums(*[[number() for _ in range(many + 1)] for _ in range(rows)])


def rank(rows):
    """How many rows none of which is a sum of the others there are at the most."""
    rows, done = [list(row) for row in rows], 0
    for column in range(len(rows[0])):
        found = [k for k in range(done, len(rows)) if rows[k][column] != 0]
        if not found:
            continue
        rows[done], rows[found[0]] = rows[found[0]], rows[done]
        for k in range(done + 1, len(rows)):
            many = rows[k][column] / rows[done][column]
            rows[k] = [a - many * b for a, b in zip(rows[k], rows[done])]
        done += 1
    return done


def can_be_met(rows):
    plain = [[Fraction(*r) for r in some] for some, due in rows]
    wide = [row + [Fraction(*due)] for row, (some, due) in zip(plain, rows)]
    return rank(plain) == rank(wide)


class Solved(unittest.TestCase):
    def assert_fractions(self, some):
        self.assertIs(type(some), tuple)
        for r in some:
            self.assertEqual(r, pair(Fraction(*r)))
            self.assertEqual([type(part) for part in r], [int, int])

    def assert_numbers(self, rows, some):
        self.assertEqual(len(some), len(rows[0][0]))
        for row, due in rows:
            made = sum(Fraction(*r) * Fraction(*number) for r, number in zip(row, some))
            self.assertEqual(made, Fraction(*due))

    def assert_weights(self, rows, some):
        self.assertEqual(len(some), len(rows))
        for k in range(len(rows[0][0])):
            self.assertEqual(sum(Fraction(*w) * Fraction(*row[k]) for w, (row, due) in zip(some, rows)), 0)
        self.assertNotEqual(sum(Fraction(*w) * Fraction(*due) for w, (row, due) in zip(some, rows)), 0)

    def assert_solved(self, rows):
        told = solved(rows)
        self.assertIs(type(told), tuple)
        word, some = told
        self.assert_fractions(some)
        self.assertEqual(word, "numbers" if can_be_met(rows) else "weights", rows)
        if word == "numbers":
            self.assert_numbers(rows, some)
        else:
            self.assert_weights(rows, some)
        return word

    def test_one_row_of_one(self):
        self.assertEqual(solved(sums((3, 5))), ("numbers", ((5, 3),)))
        self.assertEqual(solved(sums((Fraction(-2, 7), Fraction(1, 2)))), ("numbers", ((-7, 4),)))
        self.assertEqual(solved(sums((4, 0))), ("numbers", (NOUGHT,)))
        self.assertEqual(self.assert_solved(sums((0, 0))), "numbers")
        self.assertEqual(self.assert_solved(sums((0, 5))), "weights")

    def test_as_many_rows_as_unknown_ones(self):
        self.assertEqual(solved(sums((1, 1, 3), (1, -1, 1))), ("numbers", ((2, 1), ONE)))
        self.assertEqual(solved(sums((0, 2, 3), (5, 0, 1))), ("numbers", ((1, 5), (3, 2))))
        told = solved(sums((2, 1, -1, 8), (-3, -1, 2, -11), (-2, 1, 2, -3)))
        self.assertEqual(told, ("numbers", ((2, 1), (3, 1), (-1, 1))))

    def test_one_row_of_several(self):
        for row in ((1, 2, 3, 4), (0, 0, 5, 1), (0, 0, 0, 0), (Fraction(1, 3), 0, -1, Fraction(2, 9))):
            self.assertEqual(self.assert_solved(sums(row)), "numbers")
        self.assertEqual(self.assert_solved(sums((0, 0, 0, 1))), "weights")

    def test_several_rows_of_one(self):
        self.assertEqual(self.assert_solved(sums((1, 2), (2, 4), (-3, -6))), "numbers")
        self.assertEqual(self.assert_solved(sums((1, 2), (2, 4), (-3, -5))), "weights")
        self.assertEqual(self.assert_solved(sums((0, 0), (2, 4), (0, 0))), "numbers")

    def test_rows_twice(self):
        self.assertEqual(self.assert_solved(sums((1, 2, 3), (1, 2, 3))), "numbers")
        self.assertEqual(self.assert_solved(sums((1, 2, 3), (1, 2, 4))), "weights")
        self.assertEqual(self.assert_solved(sums((1, 2, 3), (2, 4, 6), (0, 1, 1))), "numbers")
        self.assertEqual(self.assert_solved(sums((1, 2, 3), (0, 1, 1), (2, 4, 7))), "weights")

    def test_rows_of_noughts(self):
        self.assertEqual(self.assert_solved(sums((0, 0, 0), (1, 2, 3))), "numbers")
        self.assertEqual(self.assert_solved(sums((1, 2, 3), (0, 0, 0), (0, 0, 0))), "numbers")
        self.assertEqual(self.assert_solved(sums((0, 0, 1), (1, 2, 3))), "weights")
        self.assertEqual(self.assert_solved(sums((1, 2, 3), (2, 1, 1), (0, 0, Fraction(-1, 9)))), "weights")

    def test_an_unknown_one_that_no_row_has(self):
        self.assertEqual(self.assert_solved(sums((0, 1, 3), (0, 2, 6))), "numbers")
        self.assertEqual(self.assert_solved(sums((0, 1, 3), (0, 2, 5))), "weights")
        self.assertEqual(self.assert_solved(sums((1, 0, 2, 3), (1, 0, -1, 6))), "numbers")

    def test_small_samples(self):
        source = random.Random(141)
        words = []
        for _ in range(600):
            rows, many = source.randint(1, 6), source.randint(1, 6)
            words.append(self.assert_solved(some_sums(source, rows, many, 2, 3)))
        self.assertGreater(words.count("numbers"), 100)
        self.assertGreater(words.count("weights"), 100)

    def test_more_rows_that_can_be_met(self):
        source = random.Random(142)
        for rows, many in ((13, 8), (9, 4), (13, 1), (7, 6)):
            numbers = [Fraction(source.randint(-9, 9), source.randint(1, 9)) for _ in range(many)]
            told = []
            for _ in range(rows):
                row = [Fraction(source.randint(-9, 9), source.randint(1, 9)) for _ in range(many)]
                told.append(row + [sum(a * b for a, b in zip(row, numbers))])
            self.assertEqual(self.assert_solved(sums(*told)), "numbers")
            told[rows // 2][many] += Fraction(1, 11)
            self.assertEqual(self.assert_solved(sums(*told)), "weights")

    def test_fractions_of_twenty_figures(self):
        source, most = random.Random(143), 10 ** 20 - 1
        for rows, many, due in ((13, 8, "weights"), (8, 8, "numbers"), (5, 8, "numbers"), (13, 1, "weights")):
            self.assertEqual(self.assert_solved(some_sums(source, rows, many, most, most)), due)

    def test_thirteen_rows_of_eight_with_few_that_stand_alone(self):
        source = random.Random(144)
        for few in (1, 3, 5):
            base = [[Fraction(source.randint(-99, 99), source.randint(1, 99)) for _ in range(9)] for _ in range(few)]
            rows = []
            for _ in range(13):
                parts = [source.randint(-3, 3) for _ in base]
                rows.append([sum(p * row[k] for p, row in zip(parts, base)) for k in range(9)])
            self.assertEqual(self.assert_solved(sums(*rows)), "numbers")
            rows[12][8] += 1
            self.assertEqual(self.assert_solved(sums(*rows)), "weights")

    def test_asked_again_the_same_and_nothing_changed(self):
        for rows in (sums((1, 2, 3), (4, 5, 6)), sums((1, 2, 3), (1, 2, 4)), sums((0, 0, 0))):
            kept = tuple(rows)
            self.assertEqual(solved(rows), solved(rows))
            self.assertEqual(rows, kept)


if __name__ == "__main__":
    unittest.main()
