"""Roots of fractions that are fractions themselves."""


def whole_power(n, k):
    """A whole number to the power k."""
    made = 1
    for step in range(k):
        made *= n
    return made


def whole_root(n, k):
    """The greatest whole number whose k-th power isn't above n, n from 0 on."""
    if n == 0:
        return 0
    # Whatever is at or above the root falls towards it at each step, and
    # falls no more once it is there; so the start must lie above.
    root = 1 << (n.bit_length() // k + 1)
    while True:
        nearer = ((k - 1) * root + n // whole_power(root, k - 1)) // k
        if nearer >= root:
            return root
        root = nearer


def roots(r, k):
    """All fractions whose k-th power r is, rising; k from 1 on."""
    top, bottom = r
    if top < 0 and k % 2 == 0:
        return []
    over, under = whole_root(abs(top), k), whole_root(bottom, k)
    # Top and bottom have no common part, so each must be a power by itself.
    if whole_power(over, k) != abs(top) or whole_power(under, k) != bottom:
        return []
    if k % 2 == 1:
        return [(-over if top < 0 else over, under)]
    if over == 0:
        return [(0, 1)]
    return [(-over, under), (over, under)]
