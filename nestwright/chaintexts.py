"""Texts of chains, told and read."""

from nestwright.errors import BadText
from nestwright.polys import degree
from nestwright.polytexts import poly_text, read_poly


def chain_text(chain):
    """A chain's text, its layers' parted by `of`."""
    return " of ".join([poly_text(layer) for layer in chain])


def read_layer(text):
    """The polynomial of degree 2 at least that has this text."""
    layer = read_poly(text)
    if degree(layer) < 2:
        raise BadText(0)
    return layer


def read_chain(text):
    """The chain that has this text; refused at the first layer that isn't so."""
    layers = []
    for at, part in enumerate(text.split(" of ")):
        try:
            layers.append(read_layer(part))
        except BadText:
            raise BadText(at) from None
    return tuple(layers)
