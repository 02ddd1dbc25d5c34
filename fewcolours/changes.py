"""The least change from one palette to another, and prices that show it to be the least."""

from fewcolours.colours import apart
from fewcolours.prices import prices_for


def cost_of(one, other, price, pairs):
    """The sum of how far apart the pairs' colours are, and the price for each colour that is in no pair."""
    turned = sum([apart(one[i], other[j]) for i, j in pairs])
    return turned + price * (len(one) + len(other) - 2 * len(pairs))


def turns_of(one, other):
    """For each colour of one a list of pairs (bit, square): which of other's it may be turned to, and how far."""
    return [[(1 << j, apart(colour, aim)) for j, aim in enumerate(other)] for colour in one]


def sets_taken(many, bits):
    """For each place in one, and behind all: the sets of other's colours, as bits, that may be taken ahead of it."""
    sets = [[0]]
    for place in range(many):
        last = sets[-1]
        sets.append(sorted(set(last) | {taken | bit for taken in last for bit in bits}))
    return sets


def least_here(turns, sets, price, later):
    """The least cost from a colour of one on, for each of these sets, where later tells it from the next one on."""
    return {taken: min([later[taken] + price]
                       + [square + later[taken | bit] for bit, square in turns if not taken & bit]) for taken in sets}


def least_left(one, other, price):
    """For each place in one, and behind all: the least cost of what is left, by the set of other's that is taken."""
    bits = [1 << j for j in range(len(other))]
    sets = sets_taken(len(one), bits)
    left = [{taken: price * len([bit for bit in bits if not taken & bit]) for taken in sets[-1]}]
    for turns, ahead in zip(turns_of(one, other)[::-1], sets[:-1][::-1]):
        left.append(least_here(turns, ahead, price, left[-1]))
    return left[::-1]


def first_turn(turns, taken, least, later):
    """The first number of other to which a colour of one may be turned at the least cost, None where there is none."""
    for j, (bit, square) in enumerate(turns):
        if not taken & bit and square + later[taken | bit] == least:
            return j
    return None


def first_pairs(one, other, price, left):
    """The first pairs, as lists stand, of the least cost."""
    pairs = []
    taken = 0
    for i, turns in enumerate(turns_of(one, other)):
        least = left[i][taken]
        # A list stands ahead of all that go on behind it, so where no more pairs need be there are none.
        if least == price * (len(one) - i) + left[-1][taken]:
            return pairs
        j = first_turn(turns, taken, least, left[i + 1])
        if j is not None:
            pairs.append((i, j))
            taken |= 1 << j
    return pairs


def least_change(one, other, price):
    """A pair (cost, pairs) of the least cost, of equal ones the first pairs as lists stand."""
    left = least_left(one, other, price)
    return (left[0][0], first_pairs(one, other, price, left))


def change_paper(one, other, price):
    """A tuple of two lists: a price for each colour of one and of other, all together the least cost."""
    return prices_for(one, other, price, least_change(one, other, price)[1])
