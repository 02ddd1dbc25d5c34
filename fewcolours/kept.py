"""Colours that are kept, with a tree of boxes, while they change."""

from fewcolours.errors import NoColour
from fewcolours.trees import few_in, found_in, halved, within_in


class Kept:
    """Colours of one width, each by a number of its own that is never given again."""

    def __init__(self, wide, most):
        self.wide = wide
        self.most = most
        self.colours = {}
        self.many_put = 0
        self.tree = None

    def put(self, colour):
        """Keeps one colour more; tells its number."""
        number = self.many_put
        self.many_put += 1
        self.colours[number] = colour
        self.plant()
        return number

    def take(self, n):
        """Keeps the colour of that number no more."""
        self.need(n)
        del self.colours[n]
        self.plant()

    def turn(self, n, colour):
        """Turns the colour of that number to another one."""
        self.need(n)
        self.colours[n] = colour
        self.plant()

    def all_numbers(self):
        """The rising list of the numbers that are there."""
        return sorted(self.colours)

    def colour_of(self, n):
        """The colour of that number."""
        self.need(n)
        return self.colours[n]

    def nearest(self, colour):
        """The number of the one that is least apart, of equal ones the least; None where there is none."""
        if self.tree is None:
            return None
        return found_in(self.tree, self.colours, colour)[0]

    def few(self, colour, many):
        """The first so many numbers by how far apart they are, equal ones by numbers."""
        if self.tree is None:
            return []
        return few_in(self.tree, self.colours, colour, many)

    def within(self, colour, square):
        """The rising list of the numbers of all that are no more apart than square."""
        if self.tree is None:
            return []
        return within_in(self.tree, self.colours, colour, square)

    def tree_now(self):
        """A tree of the numbers that are there, None where there is none."""
        return self.tree

    def need(self, n):
        """Refuses a number by which there is no colour."""
        if n not in self.colours:
            raise NoColour(f"there is no colour {n}")

    def plant(self):
        """Makes the tree anew, from the colours as they are now."""
        # There are few colours, so this costs little; and the tree stays as flat as one can be.
        self.tree = halved(self.colours, self.most, self.all_numbers()) if self.colours != {} else None
