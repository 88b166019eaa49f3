"""Polynomials put into one another."""

from nestwright.polys import one_form, poly, tops_multiplied, tops_together


def put(f, g):
    """f of g: f with g for the letter."""
    tops, bottom = f
    inner, under = g
    # Reckoned in whole numbers, each top scaled to one bottom for all, so that
    # common parts are sought once, at the end, and not at each power.
    made, scale = [], 1
    for top in reversed(tops):
        made = tops_together(tops_multiplied(made, inner), [top * scale])
        scale *= under
    return one_form([top * under for top in made], bottom * scale)


def again(f, k):
    """f put into itself so that it stands there k times; the letter for k 0."""
    made = poly([(0, 1), (1, 1)])
    for step in range(k):
        made = put(f, made)
    return made
