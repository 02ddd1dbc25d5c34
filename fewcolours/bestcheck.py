"""The checker of trees of bounds."""

from fewcolours.colours import is_number
from fewcolours.grouping import put_each_way, total_at
from fewcolours.parts import before, is_fraction


def is_row_left(rows, groups, thing):
    """Whether a thing is the place of a row that is in none of the groups yet."""
    if not is_number(thing) or thing < 0 or thing >= len(rows):
        return False
    return not any([thing in places for places in groups])


def is_next(rows, groups, thing):
    """Whether a thing is a node that puts one of the rows left, whatever its trees."""
    if not isinstance(thing, tuple) or len(thing) != 3 or thing[0] != "next":
        return False
    return is_row_left(rows, groups, thing[1]) and isinstance(thing[2], tuple)


def shows_from(rows, many, total, groups, thing, known):
    """Whether a thing is a tree of bounds for the total from where these groups of places are begun."""
    if thing == ("dear",):
        return not before(total_at(rows, groups, known), total)
    if not is_next(rows, groups, thing):
        return False
    ways = put_each_way(groups, thing[1], many)
    if len(ways) != len(thing[2]):
        return False
    for way, below in zip(ways, thing[2]):
        if not shows_from(rows, many, total, way, below, known):
            return False
    return True


def shows_best(rows, many, total, tree):
    """Whether the tree is a tree of bounds for the total, so that no groups have a lesser one."""
    return is_fraction(total) and shows_from(rows, many, total, (), tree, {})
