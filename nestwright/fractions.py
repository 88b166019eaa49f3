"""Fractions: pairs (top, bottom) of whole numbers without a common part, bottom from 1 on."""


def common_part(one, other):
    """The greatest whole number that goes into both (0 where both are 0)."""
    one, other = abs(one), abs(other)
    while other:
        one, other = other, one % other
    return one


def fraction(top, bottom):
    """The fraction of top by bottom, its sign at the top."""
    part = common_part(top, bottom)
    if bottom < 0:
        part = -part
    return (top // part, bottom // part)


def added(one, other):
    """Both added."""
    return fraction(one[0] * other[1] + other[0] * one[1], one[1] * other[1])


def taken(one, other):
    """The one less the other one."""
    return fraction(one[0] * other[1] - other[0] * one[1], one[1] * other[1])


def multiplied(one, other):
    """Both multiplied."""
    return fraction(one[0] * other[0], one[1] * other[1])


def divided(one, other):
    """The one divided by the other one, which isn't 0."""
    return fraction(one[0] * other[1], one[1] * other[0])


def fraction_power(r, k):
    """A fraction to the power k."""
    made = (1, 1)
    for step in range(k):
        made = multiplied(made, r)
    return made
