"""Middles moved till they rest."""

from fewcolours.looking import nearest_middle
from fewcolours.middles import as_middle, far_sum, is_middle, middle_of, rounded
from fewcolours.parts import sum_of


def shared_out(rows, middles):
    """For each middle the list of the rows whose colours are nearest to it."""
    shared = [[] for middle in middles]
    for row in rows:
        shared[nearest_middle(middles, row[0])].append(row)
    return shared


def lost_so(shared, middles):
    """The sum of count times far_of, of rows shared out so."""
    return sum_of([far_sum(group, middle) for group, middle in zip(shared, middles)])


def moved_so(shared, middles):
    """The middles of rows shared out so; one without rows stays."""
    return [middle_of(group) if group != [] else middle for group, middle in zip(shared, middles)]


def lost_by(rows, middles):
    """The sum of count times far_of to the nearest middle."""
    return lost_so(shared_out(rows, middles), middles)


def moved_once(rows, middles):
    """The middles of what is nearest to each; one without rows stays."""
    return moved_so(shared_out(rows, middles), middles)


def are_middles(thing, wide):
    """Whether a thing is a list of one or more middles of that width."""
    return isinstance(thing, list) and thing != [] and all([is_middle(each, wide) for each in thing])


def is_resting(rows, middles):
    """Whether moving the middles once changes none; False of anything that is no list of middles."""
    return are_middles(middles, len(rows[0][0])) and moved_once(rows, middles) == middles


def at_rest(rows, middles):
    """A pair (last, steps): the middles moved till they rest, and what is lost at first and behind each move."""
    last = list(middles)
    shared = shared_out(rows, last)
    steps = [lost_so(shared, last)]
    moved = moved_so(shared, last)
    # Each move that changes a middle lessens what is lost, and there are only so many ways to share out.
    while moved != last:
        last = moved
        shared = shared_out(rows, last)
        steps.append(lost_so(shared, last))
        moved = moved_so(shared, last)
    return (last, steps)


def palette_at_rest(rows, palette):
    """The palette's colours as middles, moved till they rest, rounded."""
    last, steps = at_rest(rows, [as_middle(colour) for colour in palette])
    return [rounded(middle) for middle in last]
