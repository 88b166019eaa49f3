"""Common inner ones of two polynomials."""

from nestwright.apart import apart
from nestwright.fractions import common_part
from nestwright.inner import divisors
from nestwright.polys import degree


def common_inner(f, g):
    """(h, p, q) with f being p of h and g being q of h, h the common inner one of the greatest degree."""
    told = None
    for s in divisors(common_part(degree(f), degree(g))):
        word, p, h = apart(f, s)
        other_word, q, other_h = apart(g, s)
        if word == "made" and other_word == "made" and h == other_h:
            told = (h, p, q)
    return told
