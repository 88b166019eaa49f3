"""A polynomial taken apart into an outer and an inner one."""

from nestwright.inner import candidate, digits, divisors
from nestwright.polys import degree, fraction_at, poly


def apart(f, s):
    """("made", g, h) where f is g of h, h of degree s; else ("barred", h, i), i telling the digit that bars."""
    h = candidate(f, s)
    parts = digits(f, h)
    for i, part in enumerate(parts):
        if degree(part) >= 1:
            return ("barred", h, i)
    return ("made", poly([fraction_at(part, 0) for part in parts]), h)


def inner_degrees(f):
    """All s by which f is taken apart, rising."""
    return [s for s in divisors(degree(f)) if apart(f, s)[0] == "made"]


def inner_one(f, s):
    """The inner one of f of an inner degree."""
    return candidate(f, s)
