import unittest

from nestwright.errors import NoName, TooGreat, Twice
from nestwright.looks import look, reaches
from nestwright.polys import degree
from nestwright.reckontexts import read_reckoning
from nestwright.works import worked
from tests.oracles import some_reckonings

# Texts of terms by their reach.
FOUR, FIVE, SIX = "(^ x 4)", "(^ x 5)", "(^ x 6)"
AT_24, AT_25 = "(^ (^ x 4) 6)", "(^ (^ x 5) 5)"


def reach(*rows):
    return list(reaches(read_reckoning("\n".join(rows))).values())[-1]


def own_reach(term, known):
    """By the document's words, without a bound."""
    sort, *rest = term
    if sort in ("x", "number"):
        return 1
    if sort == "name":
        return known[rest[0]]
    first = own_reach(rest[0], known)
    if sort == "power":
        return first * rest[1] if rest[1] else 1
    if sort == "again":
        return max(rest[1], first ** rest[1]) if rest[1] else 1
    second = own_reach(rest[1], known)
    greater = max(first, second)
    return {"plus": greater, "minus": greater, "times": first + second, "of": first * second}[sort]


def all_parts(term):
    told = [term]
    for part in term[1:]:
        if isinstance(part, tuple) and part and isinstance(part[0], str):
            told += all_parts(part)
    return told


def own_look(reckoning):
    """What is due, told apart row by row: None, or the refusal's class and its name."""
    known = {}
    for name, term in reckoning:
        if name in known:
            return (Twice, name)
        for part in all_parts(term):
            if part[0] == "name" and part[1] not in known:
                return (NoName, part[1])
        if any(own_reach(part, known) > 24 for part in all_parts(term)):
            return (TooGreat, name)
        known[name] = own_reach(term, known)
    return None


class Looking(unittest.TestCase):
    def assert_refused(self, refusal, name, *rows):
        reckoning = read_reckoning("\n".join(rows))
        with self.assertRaises(refusal, msg=rows) as caught:
            look(reckoning)
        self.assertIs(type(caught.exception), refusal, rows)
        self.assertEqual(caught.exception.name, name, rows)

    def assert_let_by(self, *rows):
        self.assertIs(look(read_reckoning("\n".join(rows))), True, rows)

    def test_let_by(self):
        self.assert_let_by("a = x")
        self.assert_let_by("a = 5/7")
        self.assert_let_by("a = (+ x 1)", "b = (of a a)", "c = (- (* a b) (again a 3))")
        self.assert_let_by("a = x", "b = a", "c = b", "d = c", "e = d", "f = (+ a (+ b (+ c (+ d e))))")

    def test_twice(self):
        self.assert_refused(Twice, "a", "a = x", "a = x")
        self.assert_refused(Twice, "b", "a = x", "b = a", "c = b", "b = c")
        self.assert_refused(Twice, "b", "a = x", "b = x", "b = x", "a = x")

    def test_no_name(self):
        self.assert_refused(NoName, "b", "a = b")
        self.assert_refused(NoName, "a", "a = a")
        self.assert_refused(NoName, "b", "a = b", "b = x")
        self.assert_refused(NoName, "b", "a = x", "b = (+ a b)")
        for term in ("(+ q x)", "(+ x q)", "(- x q)", "(* q x)", "(* x q)", "(of q x)", "(of x q)", "(^ q 2)",
                     "(again q 2)", "(^ q 0)", "(again q 0)", "(+ (* x (^ q 2)) 1)"):
            self.assert_refused(NoName, "q", "a = " + term)

    def test_too_great(self):
        self.assert_refused(TooGreat, "a", "a = " + AT_25)
        self.assert_refused(TooGreat, "b", f"a = {AT_24}", "b = (* a x)")
        self.assert_refused(TooGreat, "c", f"a = {FIVE}", "b = a", "c = (of a b)", "d = x")

    def test_names_from_the_left_an_outer_term_first(self):
        self.assert_refused(NoName, "p", "a = (+ p q)")
        self.assert_refused(NoName, "q", "a = (+ q p)")
        self.assert_refused(NoName, "q", "a = (* (of x (^ q 2)) p)")
        self.assert_refused(NoName, "p", "a = x", "b = (- (+ a (again p 3)) (+ q r))")

    def test_twice_ahead_of_the_others_in_one_row(self):
        self.assert_refused(Twice, "a", "a = x", "a = q")
        self.assert_refused(Twice, "a", "a = x", "a = " + AT_25)
        self.assert_refused(Twice, "a", "a = x", f"a = (+ q {AT_25})")

    def test_no_name_ahead_of_too_great_in_one_row(self):
        self.assert_refused(NoName, "q", f"a = (+ {AT_25} q)")
        self.assert_refused(NoName, "q", f"a = (+ q {AT_25})")
        self.assert_refused(NoName, "q", f"a = (* (of {SIX} {SIX}) (^ q 6))")

    def test_a_row_ahead_of_those_behind_it(self):
        self.assert_refused(TooGreat, "a", "a = " + AT_25, "a = q")
        self.assert_refused(TooGreat, "a", "a = " + AT_25, "b = q")
        self.assert_refused(NoName, "q", "a = q", "a = x")
        self.assert_refused(NoName, "q", "a = x", "b = q", "b = " + AT_25)
        self.assert_refused(TooGreat, "b", "a = x", "b = " + AT_25, "a = x", "c = q")
        self.assert_refused(Twice, "a", "a = x", "a = x", "b = " + AT_25, "c = q")

    def test_samples_against_the_words(self):
        due = {None: 0, Twice: 0, NoName: 0, TooGreat: 0}
        for at, reckoning in enumerate(some_reckonings(15, 900, 4)):
            if at % 3 == 1:
                reckoning = tuple(reversed(reckoning))
            if at % 5 == 2:
                reckoning += reckoning[:1]
            told = own_look(reckoning)
            due[told and told[0]] += 1
            if told is None:
                self.assertIs(look(reckoning), True)
                continue
            with self.assertRaises(told[0]) as caught:
                look(reckoning)
            self.assertEqual((type(caught.exception), caught.exception.name), told)
        self.assertGreater(min(due.values()), 30)

    def test_nothing_is_changed(self):
        reckoning = read_reckoning("a = (+ x 1)\nb = (of a a)")
        self.assertEqual(look(reckoning), look(reckoning))
        self.assertEqual(reckoning, read_reckoning("a = (+ x 1)\nb = (of a a)"))


class Reaching(unittest.TestCase):
    def assert_too_great(self, *rows):
        with self.assertRaises(TooGreat, msg=rows):
            look(read_reckoning("\n".join(rows)))

    def test_letters_and_numbers(self):
        self.assertEqual(reach("a = x"), 1)
        self.assertEqual(reach("a = 0"), 1)
        self.assertEqual(reach("a = -7/3"), 1)
        self.assertEqual(reach("a = (* 2 3)"), 2)
        self.assertEqual(reach("a = (^ 2 3)"), 3)

    def test_names(self):
        self.assertEqual(reach(f"a = {FIVE}", "b = a"), 5)
        self.assertEqual(reach(f"a = {FIVE}", "b = (* a x)", "c = b"), 6)
        self.assertEqual(reach(f"a = {AT_24}", "b = a"), 24)

    def test_sums(self):
        for sign in "+-":
            self.assertEqual(reach(f"a = ({sign} {FIVE} x)"), 5)
            self.assertEqual(reach(f"a = ({sign} x {FIVE})"), 5)
            self.assertEqual(reach(f"a = ({sign} {AT_24} {AT_24})"), 24)
            self.assert_too_great(f"a = ({sign} {AT_25} x)")
            self.assert_too_great(f"a = ({sign} x {AT_25})")

    def test_falling_away_does_not_count(self):
        self.assertEqual(reach(f"a = {FIVE}", "b = (- a a)"), 5)

    def test_products(self):
        self.assertEqual(reach(f"a = (* {FIVE} {FOUR})"), 9)
        self.assertEqual(reach(f"a = {AT_24}", "b = (* (^ x 6) (^ (^ x 6) 3))"), 24)
        self.assert_too_great("b = (* (^ (^ x 6) 3) (* x (^ x 6)))")
        self.assert_too_great(f"a = (* {AT_24} 2)")

    def test_powers(self):
        self.assertEqual(reach(f"a = {AT_24}"), 24)
        self.assert_too_great("a = " + AT_25)
        self.assertEqual([reach(f"a = (^ {FOUR} {k})") for k in range(7)], [1, 4, 8, 12, 16, 20, 24])
        self.assertEqual(reach(f"a = (^ {AT_24} 1)"), 24)
        self.assertEqual(reach(f"a = (^ {AT_24} 0)"), 1)

    def test_putting_in(self):
        self.assertEqual(reach(f"a = (of {FOUR} {FIVE})"), 20)
        self.assertEqual(reach(f"a = (of {FOUR} {SIX})"), 24)
        self.assertEqual(reach(f"a = (of {AT_24} 5)"), 24)
        self.assertEqual(reach(f"a = (of 5 {AT_24})"), 24)
        self.assert_too_great(f"a = (of {FIVE} {FIVE})")

    def test_again(self):
        self.assertEqual([reach(f"a = (again x {k})") for k in range(7)], [1, 1, 2, 3, 4, 5, 6])
        self.assertEqual([reach(f"a = (again (^ x 2) {k})") for k in range(5)], [1, 2, 4, 8, 16])
        self.assert_too_great("a = (again (^ x 2) 5)")
        self.assertEqual(reach(f"a = (again {FOUR} 2)"), 16)
        self.assert_too_great(f"a = (again {FIVE} 2)")
        self.assertEqual(reach(f"a = (again {AT_24} 1)"), 24)
        self.assertEqual(reach(f"a = (again {AT_24} 0)"), 1)
        self.assertEqual(reach("a = (^ (again x 6) 4)"), 24)
        self.assert_too_great("a = (^ (again x 5) 5)")

    def test_parts_within_a_term(self):
        for term in (f"(^ {AT_25} 0)", f"(again {AT_25} 0)", f"(* 0 (^ {AT_25} 0))", f"(+ x (again {AT_25} 0))",
                     f"(again (^ (* {AT_24} x) 0) 2)", f"(^ (again (^ {SIX} 6) 0) 0)"):
            self.assert_too_great("a = " + term)
        self.assertEqual(reach(f"a = (+ (^ {AT_24} 0) (again {AT_24} 0))"), 1)

    def test_great_ones_within_one_another(self):
        term = "(^ x 6)"
        for step in range(5):
            term = f"(again {term} 6)"
        self.assert_too_great("a = " + term)

    def test_rows_in_order(self):
        told = reaches(read_reckoning(f"z = x\nb = {FOUR}\na = (* z b)\nc = (of a b)"))
        self.assertIs(type(told), dict)
        self.assertEqual(list(told.items()), [("z", 1), ("b", 4), ("a", 5), ("c", 20)])

    def test_the_dict_is_the_askers_own(self):
        reckoning = read_reckoning(f"a = {FOUR}\nb = (* a a)")
        told = reaches(reckoning)
        told["a"] = 99
        told["q"] = 1
        self.assertEqual(reaches(reckoning), {"a": 4, "b": 8})
        self.assertIs(look(reckoning), True)
        self.assertIsNot(reaches(reckoning), reaches(reckoning))

    def test_samples_against_the_words_and_it_bounds_the_degree(self):
        many = 0
        for reckoning in some_reckonings(16, 300):
            if own_look(reckoning) is not None:
                continue
            many += 1
            known = {}
            for name, term in reckoning:
                known[name] = own_reach(term, known)
            told = reaches(reckoning)
            self.assertEqual(list(told.items()), list(known.items()))
            self.assertLessEqual(degree(worked(reckoning)), told[reckoning[-1][0]])
        self.assertGreater(many, 60)


if __name__ == "__main__":
    unittest.main()
