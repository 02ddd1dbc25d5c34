"""The checker of tables on a line."""

from fewcolours.colours import are_rising, is_colour
from fewcolours.looking import nearest


def are_rows(thing):
    """Whether a thing is a tuple of one or more rows (begin, number)."""
    if not isinstance(thing, tuple) or len(thing) == 0:
        return False
    # Two numbers in a tuple are just what a colour of width 2 is.
    return all([is_colour(row, 2) for row in thing])


def are_begins(begins, low, high):
    """Whether begins rise from low, none above high."""
    return begins[0] == low and begins[-1] <= high and are_rising(begins)


def tells_all(palette, first, last, number):
    """Whether that number is told of each n from first to last."""
    # All n that are told by one colour stand side by side, so the two ends answer for those between.
    return nearest(palette, (first,)) == number and nearest(palette, (last,)) == number


def shows_table(palette, low, high, table):
    """Whether the table is a tuple of rows that tell the nearest of each n from low to high."""
    if not are_rows(table):
        return False
    begins = [begin for begin, number in table]
    if not are_begins(begins, low, high):
        return False
    lasts = [begin - 1 for begin in begins[1:]] + [high]
    return all([tells_all(palette, begin, last, number) for (begin, number), last in zip(table, lasts)])
