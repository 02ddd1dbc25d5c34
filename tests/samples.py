"""Inputs that several tests share."""

import copy
import itertools
import random
from fractions import Fraction

from fewcolours.errors import BadName, BadRow, ColourError, LastColour, NoColour, NoName, NoSpot, Taken

FAR = 10 ** 6
DEAREST = 10 ** 7
REFUSALS = (NoColour, NoSpot, LastColour, BadName, Taken, NoName, BadRow)


def deep(levels):
    """Lists and tuples in one another, so many deep."""
    thing = 1
    for level in range(levels):
        thing = [thing] if level % 2 else (thing,)
    return thing


# Things that are neither a colour nor a box of any width from 1 to 5.
NEITHER = [
    None, True, False, 0, 1, -7, 10 ** 30, "", "a", "1", "12", "123", (), [], [1], [1, 2], [1, 2, 3],
    [[1], [2]], (None,), ("1",), ("a", "b"), (True,), (False, True), (1, True), (True, 1), (1, None),
    (1, 2, "3"), (1, [2]), (1, (2,)), ((1,), 2), ([1], [2]), [(1,), (2,)], ((),), ((), ()), ((1,),),
    ((1,), (2,), (3,)), ((1,), [2]), ([1], (2,)), ((1,), None), (None, (1,)), ("ab", "cd"),
    ((True,), (2,)), ((1,), (True,)), (("1",), ("2",)), ((1, 2), (3,)), ((1,), (2, 3)),
    ((1, 2), (3, "4")), ((1, None), (3, 4)), ((5,), (4,)), ((1, 5), (2, 4)), ((5, 1), (4, 2)),
    ((1, 2, 3), (1, 2, 2)), (1, 2, 3, 4, 5, 6), ((1,) * 6, (1,) * 6), ((1,), ((2,),)),
    deep(20), [deep(19)], (deep(18), deep(18)),
]


def dice(seed):
    """The same row of numbers for the same seed."""
    return random.Random(seed)


def some_colour(rng, wide, low=0, high=999):
    return tuple(rng.randint(low, high) for place in range(wide))


def some_colours(rng, wide, many, low=0, high=999):
    return [some_colour(rng, wide, low, high) for number in range(many)]


def some_rows(rng, wide, many, low=0, high=999):
    """Rows of counts: at most so many colours, unlike and rising, each with a count."""
    colours = sorted(set(some_colours(rng, wide, many, low, high)))
    return [(colour, rng.randint(1, 1000)) for colour in colours]


def as_pair(fraction):
    return (fraction.numerator, fraction.denominator)


def some_number(rng):
    """A number of either sign, of one to forty figures, sometimes 0."""
    return rng.choice((-1, 1)) * rng.randrange(10 ** rng.randint(1, 40))


def some_fraction(rng):
    return Fraction(some_number(rng), abs(some_number(rng)) + 1)


def plain_far(colour, middle):
    return sum(((number - fraction) ** 2 for number, fraction in zip(colour, middle)), Fraction(0))


# Things of every kind that may be asked about, in the place of any part of what is right.
ANYTHING = NEITHER + [
    2, 3, 999, "leaf", "node", "dear", "next", (0,), (1,), (1, 2), (1, 2, 3), (0, 1), [0], [0, 1], ((0, 0),), ((0, 1),),
    [(0, 0)], [(0, 1)], ((1,), (2,)), ((0, 0), (9, 9)), ((0,), (0,)), ("leaf",), ("node",), ("leaf", ((0,), (0,)), (0,)),
    ("node", None, None, None), ("leaf", None, None), ("node", ((0,), (9,)), (), ()), ([], []), ((), []), ([], ()),
    ([0], []), ([0], ()), ((0,), []), ([0], [()]), ([0], [[]]), ([0], [(((0,), (0,)), (0,))]), ([0], [None]),
]


def alike(one, other):
    """Whether two things are equal and of the same kinds all through (True is no 1)."""
    if type(one) is not type(other):
        return False
    if isinstance(one, (list, tuple)):
        return len(one) == len(other) and all(alike(a, b) for a, b in zip(one, other))
    return one == other


def some_thing(rng, levels):
    """Anything made of numbers, True, False, None, texts, lists and tuples, at most so many deep."""
    if levels > 0 and rng.random() < 0.7:
        parts = [some_thing(rng, levels - 1) for part in range(rng.choice((0, 1, 1, 2, 2, 3, 4)))]
        return rng.choice((list, tuple))(parts)
    return rng.choice((0, 1, 2, -1, 10 ** 20, True, False, None, "", "leaf", "node", "dear", "next", "a b", (), []))


def with_part(thing, at, other):
    """The thing with its part at that place otherwise."""
    parts = list(thing)
    parts[at] = other
    return type(thing)(parts)


def one_otherwise(thing, others):
    """The thing with one part, at any depth, in turn otherwise: each of others, or one less, one more, turned about."""
    for other in others:
        if not alike(thing, other):
            yield other
    if isinstance(thing, (list, tuple)):
        other_kind = tuple if isinstance(thing, list) else list
        yield other_kind(thing)
        if thing:
            yield thing + thing[-1:]
            yield thing[:-1]
            yield thing[1:]
        if not alike(thing, thing[::-1]):
            yield thing[::-1]
        for at, part in enumerate(thing):
            for changed in one_otherwise(part, others):
                yield with_part(thing, at, changed)
    elif type(thing) is int:
        yield thing + 1
        yield thing - 1


def lists_in(thing):
    """All lists in a thing, itself and those in lists and tuples in it."""
    found = [thing] if isinstance(thing, list) else []
    if isinstance(thing, (list, tuple)):
        for part in thing:
            found.extend(lists_in(part))
    return found


def check_own(test, ask, *handed):
    """What is handed in stays as it was; what is told is the asker's own, and told again the same."""
    copied = copy.deepcopy(handed)
    first = ask(*handed)
    kept = copy.deepcopy(first)
    test.assertTrue(alike(handed, copied))
    lists = lists_in(first)
    places = {id(each) for each in lists}
    test.assertEqual(len(places), len(lists))
    test.assertEqual([each for each in lists_in(handed) if id(each) in places], [])
    second = ask(*handed)
    test.assertTrue(alike(second, kept))
    for each in lists:
        each.insert(0, "mine")
        each.reverse()
    test.assertTrue(alike(second, kept))
    test.assertTrue(alike(handed, copied))
    test.assertTrue(alike(ask(*handed), kept))
    for each in lists_in(handed):
        each.clear()
    test.assertTrue(alike(second, kept))


def check_refused(test, kind, deed, *handed):
    """The deed is refused with that error and no other one; tells the error."""
    with test.assertRaises(kind) as caught:
        deed(*handed)
    test.assertIsInstance(caught.exception, ColourError)
    test.assertIsInstance(caught.exception, ValueError)
    test.assertEqual([each for each in REFUSALS if isinstance(caught.exception, each)], [kind])
    return caught.exception


def plain_box(colours):
    return tuple(map(min, zip(*colours))), tuple(map(max, zip(*colours)))


def any_tree(rng, palette, numbers, most, halves):
    """A tree of these numbers, parted by chance: in halves, or (one side of 1 at least) in any way."""
    box = plain_box([palette[number] for number in numbers])
    if len(numbers) == 1 or (len(numbers) <= most and rng.random() < 0.6):
        return ("leaf", box, tuple(sorted(numbers)))
    mixed = rng.sample(numbers, len(numbers))
    half = len(mixed) // 2 + rng.choice((0, len(mixed) % 2))
    cut = half if halves else rng.randint(1, len(mixed) - 1)
    return ("node", box, any_tree(rng, palette, mixed[:cut], most, halves),
            any_tree(rng, palette, mixed[cut:], most, halves))


def leaning_tree(palette, left):
    """A tree in which each node has one number on one side, all others on the other."""
    tree = ("leaf", plain_box(palette[:1]), (0,))
    for number in range(1, len(palette)):
        box = plain_box(palette[:number + 1])
        leaf = ("leaf", (palette[number], palette[number]), (number,))
        tree = ("node", box, tree, leaf) if left else ("node", box, leaf, tree)
    return tree


def some_palette(rng, wide, most=60):
    """A palette of 1 to so many colours, often with many alike ones or ties."""
    many = min(most, rng.choice((1, 2, 3, 5, 8, 13, 20, 33, 60)))
    return some_colours(rng, wide, many, 0, rng.choice((0, 1, 3, 20, 999)))


def asked_for(rng, palette):
    """A colour to be asked for: near, one of the palette's, halfway, or far off."""
    wide = len(palette[0])
    one, other = rng.choice(palette), rng.choice(palette)
    return rng.choice((
        one,
        tuple((a + b) // 2 for a, b in zip(one, other)),
        tuple(number + rng.randint(-2, 2) for number in one),
        some_colour(rng, wide, -5, 1005),
        some_colour(rng, wide, -FAR, FAR),
        tuple(rng.choice((-FAR, FAR)) for place in range(wide)),
    ))


def some_picture(rng, wide, high=999, size=None):
    """A picture of one spot, one row, one column, 16 by 16, or of any size."""
    rows, columns = size or rng.choice(((1, 1), (1, 16), (16, 1), (1, 5), (4, 1), (2, 2), (3, 4), (7, 5), (16, 16)))
    return [some_colours(rng, wide, columns, 0, high) for row in range(rows)]


GRID = [((a, b), 1) for a in range(3) for b in range(3)]
LINE = [((a,), 1) for a in range(9)]
CROSS = [((a, b), 1) for a, b in sorted([(2, b) for b in range(5)] + [(a, 2) for a in (0, 1, 3, 4)])]
RING = [((a, b), 1) for a, b in itertools.product(range(3), repeat=2) if (a, b) != (1, 1)]
CUBE = [((a, b, c), 1) for a, b, c in itertools.product(range(2), repeat=3)]
SIMPLEX = [(tuple(int(at == place) for at in range(4, -1, -1)), 2) for place in range(5)]
LIKE = [GRID, LINE, CROSS, RING, CUBE, SIMPLEX, GRID[:6], LINE[:5], [((a * a,), a + 1) for a in range(7)]]


def plain_spread(rows):
    """The sum of count times square, less the square of the sum over the count."""
    total = sum(count for colour, count in rows)
    spread = Fraction(0)
    for numbers in zip(*[colour for colour, count in rows]):
        weighed = list(zip(numbers, [count for colour, count in rows]))
        spread += sum(count * number * number for number, count in weighed)
        spread -= Fraction(sum(count * number for number, count in weighed) ** 2, total)
    return spread


def some_few_rows(rng, many):
    """At most so many rows, often with many equal totals among their groups."""
    rows = some_rows(rng, rng.randint(1, 5), many, 0, rng.choice((1, 2, 3, 999)))
    if rng.random() < 0.7:
        rows = [(colour, rng.choice((1, 1, 2))) for colour, count in rows]
    return rows


def plain_apart(one, other):
    return sum((a - b) ** 2 for a, b in zip(one, other))


def plain_cost(one, other, price, pairs):
    """The cost straight from point [19], colour by colour."""
    cost = 0
    for i, colour in enumerate(one):
        ends = [j for first, j in pairs if first == i]
        cost += plain_apart(colour, other[ends[0]]) if ends else price
    taken = [j for i, j in pairs]
    return cost + sum(price for j in range(len(other)) if j not in taken)


def all_pairs(many, more):
    """All rising lists of pairs of so many colours and more others."""
    for size in range(min(many, more) + 1):
        for firsts in itertools.combinations(range(many), size):
            for seconds in itertools.permutations(range(more), size):
                yield list(zip(firsts, seconds))


def some_prices(rng, one, other):
    """Prices of nothing, small ones, half of and as much as two colours are apart, great ones."""
    square = plain_apart(rng.choice(one), rng.choice(other))
    return [0, 1, rng.randint(1, 30), square // 2, (square + 1) // 2, min(square, DEAREST), DEAREST]


def some_two(rng, most):
    """Two palettes of up to so many colours, some alike, sometimes one a part of the other."""
    wide, high = rng.randint(1, 5), rng.choice((0, 1, 2, 5, 30, 999))
    one = some_colours(rng, wide, rng.randint(1, most), 0, high)
    other = some_colours(rng, wide, rng.randint(1, most), 0, high)
    if rng.random() < 0.3:
        other = rng.sample(one, rng.randint(1, len(one))) + other
    if rng.random() < 0.2:
        other = rng.sample(one, rng.randint(1, len(one)))
    if rng.random() < 0.3:
        one = one + [rng.choice(one + other)]
    return one[:most], other[:most]
