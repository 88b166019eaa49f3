"""Polynomials of turned angles."""

from nestwright.polys import minus, poly, scaled, times
from nestwright.straights import LETTER


def turned(n, r):
    """The polynomial T n of turned angles by r."""
    made, following = poly([(2, 1)]), LETTER
    for step in range(n):
        made, following = following, minus(times(LETTER, following), scaled(made, r))
    return made
