"""Papers: what shows, by sums and products alone, which inner degrees a polynomial has."""

from nestwright.chains import together
from nestwright.inner import candidate, digits, divisors
from nestwright.polys import degree, fraction_at, lead, plus, power, scaled, times


def between(n):
    """The divisors of n but 1 and n, rising."""
    return divisors(n)[1:-1]


def paper_of(f):
    """The paper of f: for each divisor of its degree, but two, the candidate and f's digits by it."""
    told = []
    for s in between(degree(f)):
        h = candidate(f, s)
        told.append((h, digits(f, h)))
    return tuple(told)


def is_candidate(f, s, h):
    """Whether h is the candidate of f for s, by its power alone."""
    if degree(h) != s or lead(h) != (1, 1) or fraction_at(h, 0) != (0, 1):
        return False
    n = degree(f)
    made = scaled(power(h, n // s), lead(f))
    return all([fraction_at(made, k) == fraction_at(f, k) for k in range(n - s + 1, n + 1)])


def are_digits(f, h, parts):
    """Whether these are the digits of f by h."""
    if not parts or degree(parts[-1]) < 0 or max([degree(part) for part in parts]) >= degree(h):
        return False
    made = parts[-1]
    for part in reversed(parts[:-1]):
        made = plus(times(made, h), part)
    return made == f


def paper_holds(f, paper):
    """Whether a paper is one of f, and holds."""
    due = between(degree(f))
    if len(paper) != len(due):
        return False
    for s, (h, parts) in zip(due, paper):
        if not is_candidate(f, s, h) or not are_digits(f, h, parts):
            return False
    return True


def degrees_by(f, paper):
    """The inner degrees of f, rising, by a paper of it that holds."""
    middle = [degree(h) for h, parts in paper if max([degree(part) for part in parts]) < 1]
    return [1] + middle + [degree(f)]


def chain_papers(chain):
    """A paper for each layer of a chain."""
    return tuple([paper_of(layer) for layer in chain])


def chain_holds(f, chain, papers):
    """Whether a chain comes to f and these papers show it to be whole."""
    if together(chain) != f or len(papers) != len(chain):
        return False
    for layer, paper in zip(chain, papers):
        if not paper_holds(layer, paper) or degrees_by(layer, paper) != [1, degree(layer)]:
            return False
    return True
