"""Colours: tuples of numbers, as many as their width."""


def is_number(thing):
    """Whether a thing is a whole number."""
    # Python counts True and False among its integers; here they are no numbers.
    return isinstance(thing, int) and not isinstance(thing, bool)


def are_rising(things):
    """Whether the things of a list or tuple are numbers, each above the one ahead."""
    if not all([is_number(thing) for thing in things]):
        return False
    return all([a < b for a, b in zip(things, things[1:])])


def is_colour(thing, wide):
    """Whether a thing is a colour of that width, whatever its numbers."""
    if not isinstance(thing, tuple) or len(thing) != wide:
        return False
    return all([is_number(number) for number in thing])


def apart(one, other):
    """The sum of the squares of the differences, place by place."""
    return sum([(a - b) ** 2 for a, b in zip(one, other)])
