"""A book of palettes by their NAMEs."""

from fewcolours.changes import least_change
from fewcolours.errors import BadName, NoName, Taken
from fewcolours.pictures import lost_with

LETTERS = "abcdefghijklmnopqrstuvwxyz"
LONGEST_NAME = 8


def is_name(thing):
    """Whether a thing is a text of 1 to 8 letters from a to z."""
    if not isinstance(thing, str) or not 1 <= len(thing) <= LONGEST_NAME:
        return False
    return all([letter in LETTERS for letter in thing])


class Book:
    """Palettes of one width, each by a NAME."""

    def __init__(self):
        self.palettes = {}

    def put(self, name, palette):
        """Has a palette of its own by a NAME that is not there yet."""
        if not is_name(name):
            raise BadName("this is no NAME")
        if name in self.palettes:
            raise Taken(f"{name} is there already")
        self.palettes[name] = list(palette)

    def drop(self, name):
        """Has the palette by that NAME no more."""
        self.need(name)
        del self.palettes[name]

    def palette_of(self, name):
        """The palette by that NAME."""
        self.need(name)
        return list(self.palettes[name])

    def names(self):
        """The rising list of all NAMEs that are there."""
        return sorted(self.palettes)

    def best_for(self, picture):
        """The pair (name, lost) of the one by which the least is lost, of equal ones the least name; or None."""
        losses = [(lost_with(picture, self.palettes[name]), name) for name in self.palettes]
        if losses == []:
            return None
        lost, name = min(losses)
        return (name, lost)

    def likest(self, name, price):
        """The rising list of pairs (cost, other) of all others, by what it costs to change to them."""
        self.need(name)
        palette = self.palettes[name]
        others = [other for other in self.palettes if other != name]
        return sorted([(least_change(palette, self.palettes[other], price)[0], other) for other in others])

    def need(self, name):
        """Refuses anything by which there is no palette."""
        # Not everything can be looked up, but every NAME can.
        if not is_name(name) or name not in self.palettes:
            raise NoName("there is no such NAME")
