"""The checker of least changes."""

from fewcolours.changes import cost_of
from fewcolours.colours import apart, are_rising, is_colour, is_number


def are_numbers_of(palette, numbers):
    """Whether rising numbers are numbers of the palette."""
    return are_rising(numbers) and all([0 <= number < len(palette) for number in numbers])


def are_pairs(one, other, thing):
    """Whether a thing is a rising list of tuples (i, j), i unlike, j unlike, of one's numbers and of other's."""
    # Two numbers in a tuple are just what a colour of width 2 is.
    if not isinstance(thing, list) or not all([is_colour(pair, 2) for pair in thing]):
        return False
    # As no i is there twice, pairs rise as these do.
    return are_numbers_of(one, [i for i, j in thing]) and are_numbers_of(other, sorted([j for i, j in thing]))


def are_prices(palette, price, thing):
    """Whether a thing is a list of a price for each of the palette's colours, none above price."""
    if not isinstance(thing, list) or len(thing) != len(palette):
        return False
    return all([is_number(each) and each <= price for each in thing])


def is_paper(one, other, price, thing):
    """Whether a thing is a tuple of prices of one and of other, no two together more than their colours are apart."""
    if not isinstance(thing, tuple) or len(thing) != 2:
        return False
    ones, others = thing
    if not are_prices(one, price, ones) or not are_prices(other, price, others):
        return False
    return all([a + b <= apart(colour, aim) for colour, a in zip(one, ones) for aim, b in zip(other, others)])


def shows_change(one, other, price, pairs, paper):
    """Whether the paper shows these pairs to cost the least."""
    if not are_pairs(one, other, pairs) or not is_paper(one, other, price, paper):
        return False
    return sum(paper[0]) + sum(paper[1]) == cost_of(one, other, price, pairs)
