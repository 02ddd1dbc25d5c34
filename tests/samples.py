"""Inputs that several tests share."""

import random
from fractions import Fraction

FAR = 10 ** 6


def deep(levels):
    """Lists and tuples in one another, so many deep."""
    thing = 1
    for level in range(levels):
        thing = [thing] if level % 2 else (thing,)
    return thing


# Things that are neither a colour nor a box of any width from 1 to 5.
NEITHER = [
    None, True, False, 0, 1, -7, 10 ** 30, "", "a", "1", "12", "123", (), [], [1], [1, 2], [1, 2, 3],
    [[1], [2]], (None,), ("1",), ("a", "b"), (True,), (False, True), (1, True), (True, 1), (1, None),
    (1, 2, "3"), (1, [2]), (1, (2,)), ((1,), 2), ([1], [2]), [(1,), (2,)], ((),), ((), ()), ((1,),),
    ((1,), (2,), (3,)), ((1,), [2]), ([1], (2,)), ((1,), None), (None, (1,)), ("ab", "cd"),
    ((True,), (2,)), ((1,), (True,)), (("1",), ("2",)), ((1, 2), (3,)), ((1,), (2, 3)),
    ((1, 2), (3, "4")), ((1, None), (3, 4)), ((5,), (4,)), ((1, 5), (2, 4)), ((5, 1), (4, 2)),
    ((1, 2, 3), (1, 2, 2)), (1, 2, 3, 4, 5, 6), ((1,) * 6, (1,) * 6), ((1,), ((2,),)),
    deep(20), [deep(19)], (deep(18), deep(18)),
]


def dice(seed):
    """The same row of numbers for the same seed."""
    return random.Random(seed)


def some_colour(rng, wide, low=0, high=999):
    return tuple(rng.randint(low, high) for place in range(wide))


def some_colours(rng, wide, many, low=0, high=999):
    return [some_colour(rng, wide, low, high) for number in range(many)]


def some_rows(rng, wide, many, low=0, high=999):
    """Rows of counts: at most so many colours, unlike and rising, each with a count."""
    colours = sorted(set(some_colours(rng, wide, many, low, high)))
    return [(colour, rng.randint(1, 1000)) for colour in colours]


def as_pair(fraction):
    return (fraction.numerator, fraction.denominator)


def some_number(rng):
    """A number of either sign, of one to forty figures, sometimes 0."""
    return rng.choice((-1, 1)) * rng.randrange(10 ** rng.randint(1, 40))


def some_fraction(rng):
    return Fraction(some_number(rng), abs(some_number(rng)) + 1)


def plain_far(colour, middle):
    return sum(((number - fraction) ** 2 for number, fraction in zip(colour, middle)), Fraction(0))
