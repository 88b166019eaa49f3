"""What the tests hold the program against: Python's own Fraction, and lists of them."""

import random
import re
from fractions import Fraction
from math import lcm

FORTY = int("7" * 40)
OTHER_FORTY = int("9" * 39 + "8")

FRACTION = r"(?:0|[1-9][0-9]{0,39})(?:/[1-9][0-9]{0,39})?"

X = ((0, 1), 1)
NOUGHT = ((), 1)


def number(top, bottom=1):
    """The polynomial of a number alone, in its one form."""
    r = Fraction(top, bottom)
    return ((r.numerator,), r.denominator) if r else NOUGHT


def pair(r):
    r = Fraction(r)
    return (r.numerator, r.denominator)


def pairs(*some):
    return [pair(r) for r in some]


def listed(p):
    """A polynomial's fractions, that at 0 first."""
    return [Fraction(top, p[1]) for top in p[0]]


def trimmed(some):
    some = list(some)
    while some and some[-1] == 0:
        some.pop()
    return some


def sum_of(one, other):
    many = max(len(one), len(other))
    one = one + [Fraction(0)] * (many - len(one))
    other = other + [Fraction(0)] * (many - len(other))
    return trimmed(a + b for a, b in zip(one, other))


def product_of(one, other):
    made = [Fraction(0)] * (len(one) + len(other))
    for i, a in enumerate(one):
        for k, b in enumerate(other):
            made[i + k] += a * b
    return trimmed(made)


def power_of(one, k):
    made = [Fraction(1)]
    for _ in range(k):
        made = product_of(made, one)
    return made


def put_into(one, other):
    """By the powers of the inner one, unlike the program, which goes from the lead down."""
    made = []
    for k, r in enumerate(one):
        made = sum_of(made, product_of([r], power_of(other, k)))
    return made


def value_at(one, r):
    return sum((a * r ** k for k, a in enumerate(one)), Fraction(0))


def poly_of(some):
    """The polynomial of a list of fractions, in its one form."""
    some = trimmed(Fraction(r) for r in some)
    bottom = lcm(*[r.denominator for r in some])
    return (tuple(int(r * bottom) for r in some), bottom)


def at(p, k):
    """The fraction of a polynomial at k, 0 beyond the degree."""
    return Fraction(p[0][k], p[1]) if k < len(p[0]) else Fraction(0)


def degree_of(p):
    return len(p[0]) - 1


def line(a, b):
    """The straight polynomial a x + b."""
    return poly_of([b, a])


def nested(*layers):
    """The polynomial that these come to, the outermost first."""
    made = [Fraction(0), Fraction(1)]
    for layer in layers:
        made = put_into(made, listed(layer))
    return poly_of(made)


def scaled_power(h, k, r):
    """h to the power k, multiplied with r."""
    return poly_of(product_of([Fraction(r)], power_of(listed(h), k)))


def digits_sum(parts, h):
    """What these come to, each times a power of h."""
    made = []
    for i, part in enumerate(parts):
        made = sum_of(made, product_of(listed(part), power_of(listed(h), i)))
    return poly_of(made)


def is_neat_layer(h):
    return at(h, degree_of(h)) == 1 and at(h, 0) == 0


def is_neat(chain):
    return all(is_neat_layer(layer) for layer in chain[1:])


def angles(n, r):
    """The polynomial of turned angles of degree n, by r."""
    one, other = [Fraction(2)], [Fraction(0), Fraction(1)]
    for _ in range(n):
        one, other = other, sum_of([Fraction(0)] + other, product_of([Fraction(-r)], one))
    return poly_of(one)


def letter_to(n):
    """The letter to the power n."""
    return ((0,) * n + (1,), 1)


def by_powers(r, p, k):
    """x ** r times p to the power k, and x ** r times p of x ** k."""
    outer = product_of(listed(letter_to(r)), power_of(listed(p), k))
    within = product_of(listed(letter_to(r)), listed(nested(p, letter_to(k))))
    return poly_of(outer), poly_of(within)


def degrees(chain):
    """The degrees of a chain's layers."""
    return [degree_of(layer) for layer in chain]


def line_back(l):
    """The straight polynomial that comes to x with l."""
    return line(1 / at(l, 1), -at(l, 0) / at(l, 1))


def changed(p, k, by=Fraction(1, 3)):
    """A polynomial with its fraction at k changed."""
    some = listed(p) + [Fraction(0)] * (k + 1)
    some[k] += by
    return poly_of(some)


def with_one(some, place, other):
    """A tuple with another thing at one place."""
    return some[:place] + (other,) + some[place + 1:]


def some_polys(seed, many, low, high, figures=2):
    """Polynomials of degrees low to high, the same at each run."""
    source = random.Random(seed)
    told = []
    for _ in range(many):
        some = some_fractions(source.randint(0, 10 ** 9), source.randint(low, high) + 1, figures)
        some[-1] = some[-1] or Fraction(source.choice([1, -1, 3]), source.choice([1, 2, 5]))
        told.append(poly_of(some))
    return told


def great_poly(seed, degree, figures=40):
    """A polynomial with whole numbers of so many figures at every place."""
    source = random.Random(seed)
    low, high = 10 ** (figures - 1), 10 ** figures - 1
    bottom = source.randint(low, high)
    return poly_of([Fraction(source.choice([1, -1]) * source.randint(low, high), bottom) for _ in range(degree + 1)])


def is_fraction(text):
    """By the rules of the document, one by one, unlike the program, which tells it again."""
    found = re.fullmatch(rf"-?{FRACTION}", text)
    if not found or text == "-0":
        return False
    top, slash, bottom = text.partition("/")
    return not slash or (bottom != "1" and Fraction(text).denominator == int(bottom))


def some_fractions(seed, many, figures=3):
    """Fractions that are the same at each run, noughts and both signs among them."""
    source = random.Random(seed)
    most = 10 ** figures - 1
    told = []
    for _ in range(many):
        bottom = source.choice([1, 1, 2, 3, 4, 6, source.randint(1, most)])
        told.append(Fraction(source.choice([0, 1, -1, source.randint(-most, most)]), bottom))
    return told


def some_lists(seed, many, degree, figures=3):
    """Lists of fractions of polynomials of degrees -1 to degree."""
    source = random.Random(seed)
    return [
        trimmed(some_fractions(source.randint(0, 10 ** 9), source.randint(0, degree + 1), figures))
        for _ in range(many)
    ]


def some_term(source, names, depth):
    """A term of any sort, at most so deep, over these names."""
    leaves = ["x", "number"] + ["name"] * (2 if names else 0)
    sort = source.choice(leaves if depth <= 1 else leaves + "plus minus times of power again".split() * 2)
    if sort == "x":
        return ("x",)
    if sort == "number":
        return ("number", pair(Fraction(source.randint(-9, 9), source.randint(1, 5))))
    if sort == "name":
        return ("name", source.choice(names))
    first = some_term(source, names, depth - 1)
    if sort in ("power", "again"):
        return (sort, first, source.randint(0, 6))
    return (sort, first, some_term(source, names, depth - 1))


def some_reckonings(seed, many, depth=3):
    """Reckonings of one to six rows, each over the names of the rows ahead."""
    source = random.Random(seed)
    told = []
    for _ in range(many):
        names = ["a", "b", "xx", "ofx", "number", "z"][:source.randint(1, 6)]
        told.append(tuple(
            (name, some_term(source, names[:at], depth)) for at, name in enumerate(names)
        ))
    return told
