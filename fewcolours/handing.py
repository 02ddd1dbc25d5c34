"""What is left over handed on from spot to spot of a picture."""

from fewcolours.looking import nearest


def added(one, other):
    """The sum of two tuples of numbers, place by place."""
    return tuple([a + b for a, b in zip(one, other)])


def lessened(one, other):
    """One less other, place by place."""
    return tuple([a - b for a, b in zip(one, other)])


def spots_in_order(picture, way):
    """Tuples (row, column, side) of all spots as they are gone through; across counts to that side, 1 or -1."""
    spots = []
    for row, colours in enumerate(picture):
        columns = list(range(len(colours)))
        if way == "turned" and row % 2 == 1:
            spots.extend([(row, column, -1) for column in columns[::-1]])
        else:
            spots.extend([(row, column, 1) for column in columns])
    return spots


def shares_there(picture, shares, spot):
    """Tuples (row, column, parts) of the shares, in order, whose spots lie in the picture."""
    row, column, side = spot
    all_shares = [(row + down, column + side * across, parts) for across, down, parts in shares]
    return [each for each in all_shares if each[0] < len(picture) and 0 <= each[1] < len(picture[0])]


def hand_over(wanted, shares, spot, colour):
    """Hands on, in the rows of what is wanted, what that colour leaves over at the spot; tells what is lost."""
    left = lessened(wanted[spot[0]][spot[1]], colour)
    there = shares_there(wanted, shares, spot)
    if there == []:
        return left
    total = sum([parts for across, down, parts in shares])
    remains = left
    for row, column, parts in there:
        handed = tuple([number * parts // total for number in left])
        wanted[row][column] = added(wanted[row][column], handed)
        remains = lessened(remains, handed)
    row, column, parts = there[0]
    wanted[row][column] = added(wanted[row][column], remains)
    return (0,) * len(left)


def wanted_by(picture, palette, shares, way, numbers):
    """What is wanted at each spot, where the spots are told by these numbers."""
    wanted = [list(row) for row in picture]
    for spot in spots_in_order(picture, way):
        hand_over(wanted, shares, spot, palette[numbers[spot[0]][spot[1]]])
    return wanted


def handed_on(picture, palette, shares, way):
    """A pair (numbers, lost): each spot told by the nearest to what is wanted there, and the sums of what is lost."""
    wanted = [list(row) for row in picture]
    numbers = [[0] * len(row) for row in picture]
    lost = (0,) * len(picture[0][0])
    for spot in spots_in_order(picture, way):
        row, column, side = spot
        number = nearest(palette, wanted[row][column])
        numbers[row][column] = number
        lost = added(lost, hand_over(wanted, shares, spot, palette[number]))
    return (numbers, lost)
