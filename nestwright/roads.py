"""Roads: rows of places along which one whole neat chain is led to another."""

from nestwright.chains import degrees_of


def road(chain, other):
    """Places along which a whole neat chain is led to another one that comes to the same."""
    row = degrees_of(chain)
    told = []
    # A neat whole chain is told by its degrees, so these alone are looked at.
    # Where some whole chain ends with a degree, the last layer of that degree
    # can be exchanged with all behind it; then the layers ahead of it are due.
    for due in reversed(degrees_of(other)):
        i = len(row) - 1
        while row[i] != due:
            i -= 1
        row.pop(i)
        told += list(range(i, len(row)))
    return told
