"""Reckonings looked at ahead of being worked out."""

from nestwright.errors import NoName, TooGreat, Twice

MOST_REACH = 24


def inner_terms(term):
    """The terms right within a term, from the left."""
    if term[0] in ("plus", "minus", "times", "of"):
        return [term[1], term[2]]
    if term[0] in ("power", "again"):
        return [term[1]]
    return []


def look_for_names(term, known):
    """Refuses the first name, from the left, that no row ahead has."""
    if term[0] == "name" and term[1] not in known:
        raise NoName(term[1])
    for inner in inner_terms(term):
        look_for_names(inner, known)


def again_reach(reach, k):
    """The reach of a term put into itself k times, by the term's own."""
    made = 1
    for step in range(k):
        made *= reach
    return max(k, made)


def reach_by(term, inner, known):
    """A term's reach by those of the terms right within it."""
    sort = term[0]
    if sort == "name":
        return known[term[1]]
    if sort in ("plus", "minus"):
        return max(inner)
    if sort == "times":
        return inner[0] + inner[1]
    if sort == "of":
        return inner[0] * inner[1]
    if sort == "power" and term[2] > 0:
        return inner[0] * term[2]
    if sort == "again":
        return again_reach(inner[0], term[2])
    return 1


def reach_within(term, known, row):
    """A term's reach; the row is refused where some part's is too great."""
    inner = [reach_within(part, known, row) for part in inner_terms(term)]
    reach = reach_by(term, inner, known)
    if reach > MOST_REACH:
        raise TooGreat(row)
    return reach


def reaches(reckoning):
    """The reach of each row's term, by the rows' names in order."""
    told = {}
    for name, term in reckoning:
        if name in told:
            raise Twice(name)
        look_for_names(term, told)
        told[name] = reach_within(term, told, name)
    return told


def look(reckoning):
    """True of a reckoning that is let by; else it is refused."""
    reaches(reckoning)
    return True
