"""Tables of the nearest on a line, for palettes of width 1."""

from fewcolours.looking import nearest


def first_places(palette):
    """Pairs (place, number): the palette's unlike places, rising, each with its least number."""
    pairs = sorted([(colour[0], number) for number, colour in enumerate(palette)])
    firsts = []
    for place, number in pairs:
        if firsts == [] or firsts[-1][0] != place:
            firsts.append((place, number))
    return firsts


def begin_between(left, right):
    """The least n that is told by right, of two such pairs beside one another."""
    both = left[0] + right[0]
    # Just halfway they are equally far, and the lesser number is told.
    if both % 2 == 0 and right[1] < left[1]:
        return both // 2
    return both // 2 + 1


def line_table(palette, low, high):
    """The fewest rows (begin, number) that tell the nearest of each n from low to high."""
    firsts = first_places(palette)
    rows = [(low, nearest(palette, (low,)))]
    for left, right in zip(firsts, firsts[1:]):
        begin = begin_between(left, right)
        if low < begin <= high:
            rows.append((begin, right[1]))
    return tuple(rows)


def by_table(table, n):
    """The number of the last row whose begin is not above n."""
    told = table[0][1]
    for begin, number in table:
        if begin <= n:
            told = number
    return told
