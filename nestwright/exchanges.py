"""Exchanges of neighbours in neat chains."""

from nestwright.apart import apart
from nestwright.polys import degree
from nestwright.puts import put


def exchanged(chain, i):
    """The neat chain with the neighbours i and i + 1 exchanged, or None where they can't be."""
    a, b = chain[i], chain[i + 1]
    if degree(a) == degree(b):
        return None
    word, c, d = apart(put(a, b), degree(a))
    if word == "barred":
        return None
    return chain[:i] + (c, d) + chain[i + 2:]


def led(chain, places):
    """What a chain is led to along places, or None where one exchange can't be."""
    for i in places:
        chain = exchanged(chain, i)
        if chain is None:
            return None
    return chain
