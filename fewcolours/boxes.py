"""Boxes of colours: tuples (low, high), holding all colours between, place by place."""

from fewcolours.colours import apart, is_colour


def is_box(thing, wide):
    """Whether a thing is a box of colours of that width."""
    if not isinstance(thing, tuple) or len(thing) != 2:
        return False
    low, high = thing
    if not is_colour(low, wide) or not is_colour(high, wide):
        return False
    return all([a <= b for a, b in zip(low, high)])


def holds(box, colour):
    """Whether each number of the colour is from low's to high's."""
    low, high = box
    return all([a <= n <= b for a, n, b in zip(low, colour, high)])


def least_numbers(colours):
    """The least number of each place."""
    return tuple([min(numbers) for numbers in zip(*colours)])


def greatest_numbers(colours):
    """The greatest number of each place."""
    return tuple([max(numbers) for numbers in zip(*colours)])


def box_of(colours):
    """The least box that holds a list of one or more colours."""
    return (least_numbers(colours), greatest_numbers(colours))


def both_boxes(one, other):
    """The least box that holds all that one or other holds."""
    # A box that holds all four ends holds all that is between them.
    return box_of([*one, *other])


def sides_of(box):
    """How long the box is, place by place."""
    low, high = box
    return [b - a for a, b in zip(low, high)]


def longest_place(box):
    """The first place of the longest side."""
    sides = sides_of(box)
    return sides.index(max(sides))


def near_box(colour, box):
    """How far apart from the colour the nearest one is that the box holds."""
    low, high = box
    closest = tuple([min(max(a, n), b) for a, n, b in zip(low, colour, high)])
    return apart(colour, closest)


def far_box(colour, box):
    """How far apart from the colour the farthest one is that the box holds."""
    low, high = box
    corner = tuple([a if n - a > b - n else b for a, n, b in zip(low, colour, high)])
    return apart(colour, corner)
