"""The two kinds of exchanges of degrees without a common part, and the straight ones that show them."""

from nestwright.apart import apart
from nestwright.fractions import common_part, divided, fraction_power, multiplied, taken
from nestwright.plains import plain
from nestwright.polys import degree, fraction_at, lead, poly, power, times
from nestwright.puts import put
from nestwright.straights import straight, turned_back
from nestwright.turned import turned


def letter_power(n):
    """The letter to the power n."""
    return ((0,) * n + (1,), 1)


def power_forms(m, k, way, r, p):
    """The four polynomials of the powers, by P and r, for a of degree m and b of degree k."""
    step = m if way else k
    low, plain_power = letter_power(r), letter_power(step)
    outer, within = times(low, power(p, step)), times(low, put(p, plain_power))
    if way:
        return (plain_power, within, outer, plain_power)
    return (outer, plain_power, plain_power, within)


def turned_forms(m, k, r):
    """The four polynomials of turned angles by r, for a of degree m and b of degree k."""
    return (turned(m, fraction_power(r, k)), turned(k, r), turned(k, fraction_power(r, m)), turned(m, r))


def forms(m, k, sort):
    """The four polynomials that a kind tells for a of degree m and b of degree k."""
    if sort[0] == "turned":
        return turned_forms(m, k, sort[1])
    word, way, r, p = sort
    return power_forms(m, k, way, r, p)


def by_powers(way, f, step):
    """The kind of the powers whose x ** r times P of x ** step f is, but for f's fraction at 0."""
    n = degree(f)
    r = n % step
    return ("powers", way, r, poly([fraction_at(f, at) for at in range(r, n + 1, step)]))


def sort_of(a, b, d, l3):
    """The kind of a of b, d within it too, by the straight one that stands innermost."""
    m, k = degree(a), degree(b)
    p = plain(b)[1]
    if p == letter_power(k):
        return by_powers(0, put(d, l3), k)
    if plain(a)[1] == letter_power(m):
        return by_powers(1, put(b, l3), m)
    # T k by A has -k A at k - 2, and plain ones differ from it at 0 alone.
    return ("turned", divided(fraction_at(p, k - 2), (-k, 1)))


def straight_outside(f, p):
    """The straight one that, with p put into it, comes to f, where there is one."""
    a = divided(lead(f), lead(p))
    return straight(a, taken(fraction_at(f, 0), multiplied(a, fraction_at(p, 0))))


def kind(a, b):
    """(kind, (l1, l2, l3, l4)) that shows how a of b is exchanged, or None."""
    m, k = degree(a), degree(b)
    if common_part(m, k) > 1:
        return None
    word, c, d = apart(put(a, b), m)
    if word == "barred":
        return None
    # In both kinds b's form has 0 at the power right below its degree, as b's plain
    # one has; so the same one stands within, and P or A takes up any stretching.
    l3 = turned_back(plain(b)[2])
    sort = sort_of(a, b, d, l3)
    a_form, b_form, c_form, d_form = forms(m, k, sort)
    l2 = straight_outside(put(b, l3), b_form)
    l4 = straight_outside(put(d, l3), d_form)
    l1 = turned_back(straight_outside(put(a, l2), a_form))
    return (sort, (l1, l2, l3, l4))


def is_sort(m, k, sort):
    """Whether this is one of the kinds' forms, of these degrees."""
    if sort[0] == "turned":
        return len(sort) == 2 and sort[1] != (0, 1)
    if sort[0] != "powers" or len(sort) != 4 or sort[1] not in (0, 1):
        return False
    word, way, r, p = sort
    step, due = (m, k) if way else (k, m)
    return r >= 0 and degree(p) >= 0 and r + step * degree(p) == due


def with_straights(outer, f, within):
    """f with a straight one outside and one within."""
    return put(outer, put(f, within))


def kind_holds(a, b, c, d, told):
    """Whether a kind and its straight ones show a, b, c, d to be of it."""
    sort, lines = told
    m, k = degree(a), degree(b)
    if not is_sort(m, k, sort) or [degree(l) for l in lines] != [1, 1, 1, 1]:
        return False
    l1, l2, l3, l4 = lines
    made = (
        with_straights(l1, a, l2),
        with_straights(turned_back(l2), b, l3),
        with_straights(l1, c, l4),
        with_straights(turned_back(l4), d, l3),
    )
    return made == forms(m, k, sort)
