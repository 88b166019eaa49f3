"""Chains: tuples of polynomials of degree 2 at least, each with the next one put into it."""

from nestwright.apart import apart, inner_degrees
from nestwright.polys import degree, fraction_at, lead
from nestwright.puts import put
from nestwright.straights import LETTER, straight, turned_back


def together(chain):
    """The polynomial that a chain comes to."""
    made = chain[-1]
    for layer in reversed(chain[:-1]):
        made = put(layer, made)
    return made


def neat(chain):
    """The neat chain of the same degrees that comes to the same."""
    told = []
    # What is taken off outside a layer is put into the next one out.
    taken_off = LETTER
    for layer in reversed(chain[1:]):
        made = put(layer, taken_off)
        taken_off = straight(lead(made), fraction_at(made, 0))
        told.append(put(turned_back(taken_off), made))
    told.append(put(chain[0], taken_off))
    return tuple(told[::-1])


def degrees_of(chain):
    """The degrees of a chain's layers, the outermost one's first."""
    return [degree(layer) for layer in chain]


def chains(f):
    """All neat whole chains that come to f, sorted by their degrees."""
    told = []
    for s in inner_degrees(f)[1:-1]:
        word, g, h = apart(f, s)
        if inner_degrees(h) == [1, s]:
            told += [chain + (h,) for chain in chains(g)]
    return sorted(told, key=degrees_of) if told else [(f,)]
