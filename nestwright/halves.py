"""What, put into itself again and again, makes a polynomial."""

from nestwright.apart import apart
from nestwright.fractions import divided, multiplied, taken
from nestwright.polys import degree, fraction_at, lead, plus, poly, scaled
from nestwright.puts import again
from nestwright.rootsof import roots, whole_power, whole_root


def lead_power(s, k):
    """The power of its lead that one of degree s, put in k times, has as its own."""
    return sum([whole_power(s, step) for step in range(k)])


def with_lead(g, h, a):
    """The only one of lead a that, put in again and again, can make g of h."""
    n, s = degree(g), degree(h)
    # It is a h + c, and g is what it makes put in once less, of a x + c. At the
    # power right below g's degree c comes from that a x + c alone, so it is told there.
    high = divided(multiplied(a, fraction_at(g, n - 1)), multiplied((n, 1), lead(g)))
    low = divided(fraction_at(h, s - 1), (s, 1))
    return plus(scaled(h, a), poly([taken(high, low)]))


def again_roots(f, k):
    """All that, put into themselves k times, make f, rising by their leads."""
    s = whole_root(degree(f), k)
    if whole_power(s, k) != degree(f):
        return []
    word, g, h = apart(f, s)
    if word == "barred":
        return []
    some = [with_lead(g, h, a) for a in roots(lead(f), lead_power(s, k))]
    return [one for one in some if again(one, k) == f]
