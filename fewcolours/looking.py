"""The nearest of a palette, found by looking at all of it."""

from fewcolours.colours import apart
from fewcolours.middles import far_of
from fewcolours.parts import before


def nearest(palette, colour):
    """The number of the one that is least apart, of equal ones the least number."""
    squares = [apart(one, colour) for one in palette]
    return squares.index(min(squares))


def rank_of(palette, colour, number):
    """What the palette's numbers are told in turn by: how far apart, then the number."""
    return (apart(palette[number], colour), number)


def in_turn(palette, colour):
    """All numbers by how far apart they are, equal ones by numbers."""
    ranks = sorted([rank_of(palette, colour, number) for number in range(len(palette))])
    return [number for square, number in ranks]


def nearest_few(palette, colour, many):
    """The first so many of in_turn, or all where there are fewer."""
    return in_turn(palette, colour)[:many]


def within(palette, colour, square):
    """The rising list of the numbers of all that are no more apart than square."""
    return [number for number, one in enumerate(palette) if apart(one, colour) <= square]


def nearest_middle(middles, colour):
    """The number of the middle that is least far, of equal ones the least number."""
    told = 0
    least = far_of(colour, middles[0])
    for number, middle in enumerate(middles):
        far = far_of(colour, middle)
        if before(far, least):
            told, least = number, far
    return told
