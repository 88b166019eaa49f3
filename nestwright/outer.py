"""Common outer ones: two polynomials by which two given ones come to the same, or weights that bar them."""

from nestwright.fractions import common_part
from nestwright.polys import degree, fraction_at, lead, over_one_bottom, poly, power, scaled
from nestwright.puts import put
from nestwright.sums import solved


def least_multiple(m, k):
    """The least common multiple of two whole numbers from 1 on."""
    return m * k // common_part(m, k)


def powers(p, low, high):
    """The powers of p from low on, ahead of high."""
    return [power(p, k) for k in range(low, high)]


def common_outer(f, g):
    """("outer", u, v) with u of f being v of g, or ("none", weights) by which each choice fails."""
    most = least_multiple(degree(f), degree(g))
    many, other_many = most // degree(f), most // degree(g)
    due = power(f, many)
    # u's lead is 1, so v of g, less what u has below its lead, is to come to that power of f.
    unknown = [scaled(p, (-1, 1)) for p in powers(f, 0, many)] + powers(g, 1, other_many + 1)
    rows = [(tuple([fraction_at(p, at) for p in unknown]), fraction_at(due, at)) for at in range(most + 1)]
    word, some = solved(tuple(rows))
    if word == "weights":
        return ("none", some)
    return ("outer", poly(some[:many] + ((1, 1),)), poly(((0, 1),) + some[many:]))


def outer_ones_hold(f, g, u, v):
    """Whether u and v are the outer ones of f and g."""
    most = least_multiple(degree(f), degree(g))
    if degree(u) != most // degree(f) or degree(v) != most // degree(g):
        return False
    return lead(u) == (1, 1) and fraction_at(v, 0) == (0, 1) and put(u, f) == put(v, g)


def weighed(whole, p):
    """What the tops of p, each times the whole weight of its power, come to."""
    return sum([weight * top for weight, top in zip(whole, p[0])])


def weights_hold(f, g, weights):
    """Whether weights show that f and g have no outer ones."""
    most = least_multiple(degree(f), degree(g))
    if len(weights) != most + 1:
        return False
    # Whether a sum is 0 doesn't hang on bottoms that all its parts have.
    whole, bottom = over_one_bottom(weights)
    many, other_many = most // degree(f), most // degree(g)
    barred = powers(f, 0, many) + powers(g, 1, other_many + 1)
    return all([weighed(whole, p) == 0 for p in barred]) and weighed(whole, power(f, many)) != 0


def outer_holds(f, g, told):
    """Whether what is told shows the outer ones of f and g, or that there are none."""
    if told[0] == "outer" and len(told) == 3:
        return outer_ones_hold(f, g, told[1], told[2])
    if told[0] == "none" and len(told) == 2:
        return weights_hold(f, g, told[1])
    return False
