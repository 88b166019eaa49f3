"""Inner ones: the one that can stand within a polynomial, and a polynomial written by another one."""

from nestwright.fractions import common_part, divided
from nestwright.polys import degree, lead, one_form
from nestwright.rootsof import whole_power


def divisors(n):
    """All whole numbers from 1 on that go into n, rising."""
    return [s for s in range(1, n + 1) if n % s == 0]


def in_steps(tops, c):
    """The tops, by their last one, of what has these tops, its letter being 1 / c of another one."""
    n = len(tops) - 1
    return [top * whole_power(c, n - i) // tops[n] for i, top in enumerate(tops)]


def root_tops(falling, k, s):
    """The s greatest tops of the k-th root of what has these tops, falling, the first one 1."""
    # The root H of F has k F H' = F' H, which tells each top by those ahead.
    made = [1]
    for j in range(1, s):
        parts = [(i * (k + 1) - j * k) * falling[i] * made[j - i] for i in range(1, j + 1)]
        made.append(sum(parts) // (j * k))
    return made


def candidate(f, s):
    """The only polynomial of degree s, lead 1, the fraction 0 at 0, that can stand within f."""
    n = degree(f)
    k = n // s
    # By steps of f's last top all tops of f are whole ones, and by those of k
    # twice, too, all tops of its k-th root: no fraction is reckoned with.
    c = abs(f[0][n]) * k * k
    falling = in_steps(f[0], c)[::-1]
    made = root_tops(falling, k, s)
    rising = [made[s - m] * whole_power(c, m - 1) for m in range(1, s + 1)]
    return one_form([0] + rising, whole_power(c, s - 1))


def whole_steps(tops):
    """A whole number c, from 1 on, by which in_steps of these tops tells whole ones."""
    n, most = len(tops) - 1, abs(tops[-1])
    c = 1
    for j in range(1, n + 1):
        c *= most // common_part(most, tops[n - j] * whole_power(c, j))
    return c


def parted(tops, by):
    """How many times those of the divisor, its last one 1, go into these tops, and what is left."""
    left, s = list(tops), len(by) - 1
    many = []
    while len(left) > s:
        most = left.pop()
        many.append(most)
        for i in range(s):
            left[len(left) - s + i] -= most * by[i]
    return (many[::-1], left)


def digits(f, h):
    """The tuple c_0, c_1, .. of degrees below that of h, which times h's powers come to f."""
    n, s = degree(f), degree(h)
    if n < s:
        return (f,)
    # By such steps h, by its lead, has whole tops and the last one 1: so all
    # goes in whole numbers, and common parts are sought once, at the end.
    c = whole_steps(h[0])
    by = in_steps(h[0], c)
    left = [top * whole_power(c, n - i) for i, top in enumerate(f[0])]
    over, under = divided((1, 1), lead(h))
    told = []
    for i in range(n // s + 1):
        left, digit = parted(left, by)
        tops = [top * whole_power(c, m) * whole_power(over, i) for m, top in enumerate(digit)]
        told.append(one_form(tops, f[1] * whole_power(under, i) * whole_power(c, n - s * i)))
    return tuple(told)
