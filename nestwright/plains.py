"""Plain polynomials: what is left of one when straight ones are taken off outside and within."""

from nestwright.fractions import divided, multiplied, taken
from nestwright.polys import degree, fraction_at, lead, minus, poly, scaled
from nestwright.puts import put
from nestwright.rootsof import roots
from nestwright.straights import LETTER, straight, turned_back


def plain(f):
    """(l1, p, l2) with f being l1 of p of l2, l2 of lead 1, p the plain one of f."""
    n, most = degree(f), lead(f)
    shift = divided(fraction_at(f, n - 1), multiplied(most, (n, 1)))
    moved = put(f, straight((1, 1), taken((0, 1), shift)))
    low = fraction_at(moved, 0)
    p = scaled(minus(moved, poly([low])), divided((1, 1), most))
    return (straight(most, low), p, straight((1, 1), shift))


def leaves(f):
    """All straight ones by which f stays, x first."""
    l1, p, l2 = plain(f)
    told = [LETTER]
    if all([top == 0 for top in p[0][1::2]]):
        told.append(put(turned_back(l2), put(straight((-1, 1), (0, 1)), l2)))
    return told


def stretches(p, q):
    """What m can be if p of m x is q times a number, p and q plain ones of one degree."""
    n = degree(p)
    # The leads are 1, so the number is m to the power n, and at each other
    # power k the fraction of p is that of q times m to the power n - k.
    for k in reversed(range(1, n)):
        one, other = fraction_at(p, k), fraction_at(q, k)
        if one[0] != 0 and other[0] != 0:
            return roots(divided(one, other), n - k)
    return [(1, 1)]


def alike(f, g):
    """(l1, l2), straight ones such that l1 of f of l2 is g, or None."""
    if degree(f) != degree(g):
        return None
    f1, p, f2 = plain(f)
    g1, q, g2 = plain(g)
    for m in stretches(p, q):
        stretch = straight(m, (0, 1))
        stretched = put(p, stretch)
        shrink = straight(divided((1, 1), lead(stretched)), (0, 1))
        if put(shrink, stretched) == q:
            outside = put(g1, put(shrink, turned_back(f1)))
            within = put(turned_back(f2), put(stretch, g2))
            return (outside, within)
    return None
