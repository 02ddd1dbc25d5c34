"""Palettes made by cutting boxes of rows of counts in two."""

from fewcolours.boxes import box_of, longest_place, sides_of
from fewcolours.middles import count_of, middle_of, rounded


def group_box(group):
    """The least box that holds the group's colours."""
    return box_of([colour for colour, count in group])


def next_to_cut(groups):
    """The place of the group that is cut next, None where none has two colours."""
    ranks = []
    for at, group in enumerate(groups):
        if len(group) > 1:
            # Of equal ones the first is wanted, and the greatest rank is taken: so the place is turned about.
            ranks.append((max(sides_of(group_box(group))), count_of(group), -at))
    if ranks == []:
        return None
    return -max(ranks)[2]


def cut_place(order, total):
    """How many of the rows, in this order, go in the first group."""
    # The last row is never counted, so there is always one for the other group.
    so_far = 0
    for at, row in enumerate(order[:-1]):
        so_far += row[1]
        if 2 * so_far >= total:
            return at + 1
    return len(order) - 1


def in_two(group):
    """The list of the two groups that a group of two colours or more is cut in."""
    place = longest_place(group_box(group))
    order = sorted(group, key=lambda row: (row[0][place], row[0]))
    cut = cut_place(order, count_of(group))
    return [sorted(order[:cut]), sorted(order[cut:])]


def cut_groups(rows, many):
    """The groups of rows that are there when no cut is wanted or can be made any more."""
    groups = [list(rows)]
    at = next_to_cut(groups)
    while len(groups) < many and at is not None:
        groups = groups[:at] + in_two(groups[at]) + groups[at + 1:]
        at = next_to_cut(groups)
    return groups


def palette_by_cuts(rows, many):
    """The groups' middles, rounded."""
    return [rounded(middle_of(group)) for group in cut_groups(rows, many)]
