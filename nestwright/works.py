"""Reckonings worked out to a polynomial, or valued at a fraction."""

from nestwright.fractions import added, fraction_power, multiplied, taken
from nestwright.polys import minus, plus, poly, power, times
from nestwright.puts import again, put


def term_poly(term, known):
    """The polynomial that a term comes to, by those of the rows ahead."""
    sort = term[0]
    if sort == "x":
        return poly([(0, 1), (1, 1)])
    if sort == "number":
        return poly([term[1]])
    if sort == "name":
        return known[term[1]]
    first = term_poly(term[1], known)
    if sort == "power":
        return power(first, term[2])
    if sort == "again":
        return again(first, term[2])
    return joined_polys(sort, first, term_poly(term[2], known))


def joined_polys(sort, p, other):
    """What two polynomials come to in a term of this sort."""
    if sort == "plus":
        return plus(p, other)
    if sort == "minus":
        return minus(p, other)
    if sort == "times":
        return times(p, other)
    return put(p, other)


def worked(reckoning):
    """The polynomial that a reckoning comes to, that of its last row."""
    known = {}
    for name, term in reckoning:
        known[name] = term_poly(term, known)
    return known[reckoning[-1][0]]


def row_value(name, r, terms, found):
    """A row's term valued at a fraction, once for all who ask in one reckoning."""
    key = (name, r)
    if key not in found:
        found[key] = term_value(terms[name], r, terms, found)
    return found[key]


def term_value(term, r, terms, found):
    """A term valued at a fraction."""
    sort = term[0]
    if sort == "x":
        return r
    if sort == "number":
        return term[1]
    if sort == "name":
        return row_value(term[1], r, terms, found)
    if sort == "of":
        return term_value(term[1], term_value(term[2], r, terms, found), terms, found)
    if sort == "again":
        at = r
        for step in range(term[2]):
            at = term_value(term[1], at, terms, found)
        return at
    first = term_value(term[1], r, terms, found)
    if sort == "power":
        return fraction_power(first, term[2])
    return joined_fractions(sort, first, term_value(term[2], r, terms, found))


def joined_fractions(sort, one, other):
    """What two values come to in a term of this sort."""
    if sort == "plus":
        return added(one, other)
    if sort == "minus":
        return taken(one, other)
    return multiplied(one, other)


def valued(reckoning, r):
    """What a reckoning's last row comes to at a fraction, without its polynomial."""
    terms = {name: term for name, term in reckoning}
    return row_value(reckoning[-1][0], r, terms, {})
