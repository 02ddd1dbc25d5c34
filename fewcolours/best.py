"""The best groups of all for few rows of counts, and a tree of bounds that shows them to be so."""

from fewcolours.cutting import cut_groups
from fewcolours.grouping import put_each_way, total_at
from fewcolours.middles import spread_of
from fewcolours.parts import before, sum_of


def total_of(groups):
    """The sum of the groups' spreads."""
    return sum_of([spread_of(group) for group in groups])


def ways_to_group(rows, many, known):
    """Groups of places of all rows, in at most many; those that are surely not the best may be left out."""
    # What cutting tells is one way, and a row more never lessens a spread: so what is above it is not the best.
    bound = total_of(cut_groups(rows, many))
    ways = [()]
    for place in range(len(rows)):
        grown = [way for groups in ways for way in put_each_way(groups, place, many)]
        ways = [groups for groups in grown if not before(bound, total_at(rows, groups, known))]
    return ways


def best_groups(rows, many):
    """A pair (total, groups): at most many groups of the least total, of equal ones the first as lists stand."""
    known = {}
    # As rows rise, groups of places stand in the same order as groups of rows.
    ways = sorted(ways_to_group(rows, many, known))
    best = ways[0]
    total = total_at(rows, best, known)
    for groups in ways:
        other = total_at(rows, groups, known)
        if before(other, total):
            best, total = groups, other
    return (total, [[rows[place] for place in places] for places in best])


def bounds_from(rows, many, total, groups, place, known):
    """The tree of bounds from where the rows ahead of a place are in these groups."""
    if not before(total_at(rows, groups, known), total):
        return ("dear",)
    ways = put_each_way(groups, place, many)
    return ("next", place, tuple([bounds_from(rows, many, total, way, place + 1, known) for way in ways]))


def best_paper(rows, many):
    """A tree of bounds for the total that best_groups tells."""
    # Where all rows are put the sum is never below that total, so each way down ends in time.
    total = best_groups(rows, many)[0]
    return bounds_from(rows, many, total, (), 0, {})
