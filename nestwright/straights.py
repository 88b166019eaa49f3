"""Straight polynomials, those of degree 1."""

from nestwright.fractions import divided, taken
from nestwright.polys import fraction_at, poly

LETTER = ((0, 1), 1)


def straight(a, b):
    """The straight polynomial with the fraction a at 1, b at 0."""
    return poly([b, a])


def turned_back(l):
    """The straight one that comes to x with l, whichever is put into the other."""
    a, b = fraction_at(l, 1), fraction_at(l, 0)
    return straight(divided((1, 1), a), divided(taken((0, 1), b), a))
