"""Pictures: lists of rows, lists of colours; and pictures told by palettes."""

from fewcolours.colours import apart
from fewcolours.looking import nearest


def counts_in(picture):
    """The rows of counts of the picture's colours."""
    counts = {}
    for row in picture:
        for colour in row:
            counts[colour] = counts.get(colour, 0) + 1
    return sorted([(colour, counts[colour]) for colour in counts])


def most_used(picture, many):
    """The many colours with the greatest counts, of equal counts the lesser colours first."""
    order = sorted([(-count, colour) for colour, count in counts_in(picture)])
    return [colour for less, colour in order[:many]]


def numbers_by(picture, palette):
    """For each spot the number of the nearest, as a list of lists."""
    return [[nearest(palette, colour) for colour in row] for row in picture]


def painted(numbers, palette):
    """The picture of the palette's colours by such numbers."""
    return [[palette[number] for number in row] for row in numbers]


def lost_in(picture, other):
    """The sum of how far two pictures of one size are apart, spot by spot."""
    return sum([apart(a, b) for row, beside in zip(picture, other) for a, b in zip(row, beside)])


def lost_with(picture, palette):
    """The sum of how far the picture is apart from what the palette tells of it."""
    return lost_in(picture, painted(numbers_by(picture, palette), palette))
