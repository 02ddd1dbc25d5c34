"""Middles: tuples of fractions, one for each place; and how far rows of counts spread about them."""

from fewcolours.parts import is_fraction, part, plus, sum_of, times


def is_middle(thing, wide):
    """Whether a thing is a middle of that width."""
    return isinstance(thing, tuple) and len(thing) == wide and all([is_fraction(each) for each in thing])


def count_of(rows):
    """The sum of the counts."""
    return sum([count for colour, count in rows])


def weighed_sum(rows, place):
    """The sum of count times number at a place."""
    return sum([count * colour[place] for colour, count in rows])


def middle_of(rows):
    """Place by place the sum of count times number over the sum of counts."""
    total = count_of(rows)
    wide = len(rows[0][0])
    return tuple([part(weighed_sum(rows, place), total) for place in range(wide)])


def far_of(colour, middle):
    """The fraction that is the sum of the squares of the differences."""
    square = (0, 1)
    for number, (top, bottom) in zip(colour, middle):
        gap = part(number * bottom - top, bottom)
        square = plus(square, times(gap, gap))
    return square


def far_sum(rows, middle):
    """The sum of count times how far each colour is from the middle, of a list that may be empty."""
    return sum_of([times((count, 1), far_of(colour, middle)) for colour, count in rows])


def spread_of(rows):
    """The sum of count times how far each colour is from the middle of all."""
    return far_sum(rows, middle_of(rows))


def rounded_part(fraction):
    """The nearest number, of two the greater one."""
    top, bottom = fraction
    # A half more, and then the number that is not above it: so a half itself goes up.
    return (2 * top + bottom) // (2 * bottom)


def rounded(middle):
    """The colour of the nearest numbers, place by place."""
    return tuple([rounded_part(fraction) for fraction in middle])


def as_middle(colour):
    """The colour's numbers as fractions."""
    return tuple([(number, 1) for number in colour])
