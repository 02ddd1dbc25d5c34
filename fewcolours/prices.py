"""Prices of the colours of two palettes, that show no change to cost less.

They are found as heights: place 0 is the ground; then come the colours of one, each as high above the ground as its
price, and the colours of other, each as far below the ground as its price. All that prices must be is then how much
higher one place may at most be than another: a step (low, high, most).
"""

from fewcolours.colours import apart


def place_of_one(i):
    """The place of a colour of one among the heights."""
    return 1 + i


def place_of_other(one, j):
    """The place of a colour of other among the heights."""
    return 1 + len(one) + j


def turn_step(one, other, i, j):
    """Two prices are together no more than their colours are apart."""
    return (place_of_other(one, j), place_of_one(i), apart(one[i], other[j]))


def out_step(price, i):
    """The price of a colour of one is not above price."""
    return (0, place_of_one(i), price)


def in_step(one, price, j):
    """The price of a colour of other is not above price."""
    return (place_of_other(one, j), 0, price)


def all_steps(one, other, price):
    """The steps of all colours."""
    turned = [turn_step(one, other, i, j) for i in range(len(one)) for j in range(len(other))]
    taken_out = [out_step(price, i) for i in range(len(one))]
    put_in = [in_step(one, price, j) for j in range(len(other))]
    return turned + taken_out + put_in


def paid_steps(one, other, price, pairs):
    """The steps that are paid for in what the pairs cost."""
    ones = [i for i, j in pairs]
    others = [j for i, j in pairs]
    turned = [turn_step(one, other, i, j) for i, j in pairs]
    taken_out = [out_step(price, i) for i in range(len(one)) if i not in ones]
    put_in = [in_step(one, price, j) for j in range(len(other)) if j not in others]
    return turned + taken_out + put_in


def heights_by(steps, many):
    """So many heights, as high as the steps let them be from 0 down."""
    heights = [0] * many
    falling = True
    while falling:
        falling = False
        for low, high, most in steps:
            if heights[high] > heights[low] + most:
                heights[high] = heights[low] + most
                falling = True
    return heights


def prices_for(one, other, price, pairs):
    """A tuple of the prices of one and of other, which are together what these pairs cost, the least there is."""
    # What is paid for must be the whole step, so the way back is as far down. As the pairs cost the least, no way
    # around ends lower than it began: so the heights come to rest.
    back = [(high, low, -most) for low, high, most in paid_steps(one, other, price, pairs)]
    heights = heights_by(all_steps(one, other, price) + back, 1 + len(one) + len(other))
    ground = heights[0]
    ones = [heights[place_of_one(i)] - ground for i in range(len(one))]
    others = [ground - heights[place_of_other(one, j)] for j in range(len(other))]
    return (ones, others)
