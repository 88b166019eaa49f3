"""Polynomials: pairs (tops, bottom), the k-th top by the bottom being the fraction at k.

The last top isn't 0, and no whole number above 1 goes into the bottom and all tops.
"""

from nestwright.fractions import common_part, fraction


def one_form(tops, bottom):
    """The polynomial of any whole tops over a bottom from 1 on."""
    many = len(tops)
    while many > 0 and tops[many - 1] == 0:
        many -= 1
    part = bottom
    for top in tops[:many]:
        # The search for common parts is what costs most with great numbers.
        if part == 1:
            break
        part = common_part(part, top)
    return (tuple([top // part for top in tops[:many]]), bottom // part)


def over_one_bottom(some):
    """The tops of fractions over the least bottom that all of them can have, and that bottom."""
    bottom = 1
    for r in some:
        bottom *= r[1] // common_part(bottom, r[1])
    return ([r[0] * (bottom // r[1]) for r in some], bottom)


def poly(some):
    """The polynomial of a list or tuple of fractions, that at 0 first."""
    tops, bottom = over_one_bottom(some)
    return one_form(tops, bottom)


def fraction_at(p, k):
    """The fraction of the letter to the power k, 0 beyond the degree."""
    tops, bottom = p
    if 0 <= k < len(tops):
        return fraction(tops[k], bottom)
    return (0, 1)


def degree(p):
    """How many tops there are, less one (of 0: -1)."""
    return len(p[0]) - 1


def lead(p):
    """The fraction at the degree (of 0: 0)."""
    return fraction_at(p, degree(p))


def tops_together(tops, others):
    """The tops of a sum, place by place, whichever of both is longer."""
    longer, shorter = (tops, others) if len(tops) >= len(others) else (others, tops)
    made = list(longer)
    for k, top in enumerate(shorter):
        made[k] += top
    return made


def tops_multiplied(tops, others):
    """The tops of a product."""
    if not tops or not others:
        return []
    made = [0] * (len(tops) + len(others) - 1)
    for i, top in enumerate(tops):
        for k, other in enumerate(others):
            made[i + k] += top * other
    return made


def plus(p, other):
    """Both polynomials added."""
    mine = [top * other[1] for top in p[0]]
    theirs = [top * p[1] for top in other[0]]
    return one_form(tops_together(mine, theirs), p[1] * other[1])


def minus(p, other):
    """The first polynomial less the other one."""
    return plus(p, scaled(other, (-1, 1)))


def times(p, other):
    """Both polynomials multiplied."""
    return one_form(tops_multiplied(p[0], other[0]), p[1] * other[1])


def scaled(p, r):
    """A polynomial multiplied with a fraction."""
    return one_form([top * r[0] for top in p[0]], p[1] * r[1])


def power(p, k):
    """A polynomial to the power k, 1 for k 0."""
    made = poly([(1, 1)])
    for step in range(k):
        made = times(made, p)
    return made


def value(p, r):
    """What a polynomial comes to at a fraction."""
    tops, bottom = p
    top, under = r
    # Reckoned in whole numbers, each top scaled to one bottom for all, so that
    # common parts are sought once, at the end, and not at each power.
    made, scale = 0, 1
    for part in reversed(tops):
        made = made * top + part * scale
        scale *= under
    return fraction(made * under, bottom * scale)
