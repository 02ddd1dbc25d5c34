"""Groups of rows of counts as they are grown, row by row: tuples of the tuples of their places in the rows."""

from fewcolours.middles import spread_of
from fewcolours.parts import sum_of


def known_spread(rows, places, known):
    """The spread of the rows at these places; each one is reckoned once and then kept in known."""
    if places not in known:
        known[places] = spread_of([rows[place] for place in places])
    return known[places]


def total_at(rows, groups, known):
    """The sum of the spreads of groups of places."""
    return sum_of([known_spread(rows, places, known) for places in groups])


def put_each_way(groups, place, many):
    """All groups with one place more: put in each group in turn, and where there may be one more, in its own."""
    ways = [groups[:at] + (groups[at] + (place,),) + groups[at + 1:] for at in range(len(groups))]
    # The first row has a group to begin, whatever many is.
    if len(groups) < max(many, 1):
        ways.append(groups + ((place,),))
    return ways
