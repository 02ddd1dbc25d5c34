"""The best groups of all on a line, where they are stretches of the rows of counts."""

from fewcolours.parts import before, part, plus


def spreads_from(rows):
    """The spreads of the first row, of the first two, and so on, of rows of width 1."""
    counts = 0
    weighed = 0
    squares = 0
    spreads = []
    for colour, count in rows:
        number = colour[0]
        counts += count
        weighed += count * number
        squares += count * number * number
        # The squares' sum less that of the middle, over the sum of counts, is the sum of all count times far_of.
        spreads.append(part(squares * counts - weighed * weighed, counts))
    return spreads


def best_from(begin, spreads, later):
    """The best pair (total, begins) from a place on, where later tells the best in one group less of each place."""
    # The shorter list, and then the lesser next begin, stands first: so only what is less comes in its place.
    best = (spreads[-1], (begin,))
    for after, spread in enumerate(spreads[:-1], start=begin + 1):
        total = plus(spread, later[after][0])
        if before(total, best[0]):
            best = (total, (begin,) + later[after][1])
    return best


def best_on_line(rows, many):
    """A pair (total, begins): the least total of at most many groups, and where in the rows these begin."""
    spreads = [spreads_from(rows[begin:]) for begin in range(len(rows))]
    bests = [(each[-1], (begin,)) for begin, each in enumerate(spreads)]
    for groups in range(1, min(many, len(rows))):
        bests = [best_from(begin, each, bests) for begin, each in enumerate(spreads)]
    total, begins = bests[0]
    return (total, list(begins))
