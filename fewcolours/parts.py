"""Fractions: tuples (top, bottom) in lowest terms, bottom above 0."""

from fewcolours.colours import is_colour


def common_measure(one, other):
    """The greatest number that goes into both, which are not both 0."""
    one, other = abs(one), abs(other)
    while other != 0:
        one, other = other, one % other
    return one


def is_fraction(thing):
    """Whether a thing is a fraction."""
    # Two numbers in a tuple are just what a colour of width 2 is.
    return is_colour(thing, 2) and thing[1] > 0 and common_measure(thing[0], thing[1]) == 1


def part(top, bottom):
    """The fraction of two numbers, bottom not 0."""
    measure = common_measure(top, bottom)
    # Divided by a measure of bottom's own sign, bottom comes out above 0.
    if bottom < 0:
        measure = -measure
    return (top // measure, bottom // measure)


def plus(one, other):
    """The sum of two fractions."""
    return part(one[0] * other[1] + other[0] * one[1], one[1] * other[1])


def sum_of(fractions):
    """The sum of a list of fractions, maybe empty."""
    total = (0, 1)
    for fraction in fractions:
        total = plus(total, fraction)
    return total


def times(one, other):
    """The product of two fractions."""
    return part(one[0] * other[0], one[1] * other[1])


def before(one, other):
    """Whether one is less than other."""
    # Both bottoms are above 0, so the way about stays the same.
    return one[0] * other[1] < other[0] * one[1]
