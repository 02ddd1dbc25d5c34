"""A picture told by a palette, both of which change, and each change can be taken back."""

from fewcolours.errors import LastColour, NoColour, NoSpot
from fewcolours.pictures import lost_in, numbers_by, painted


def spots_otherwise(told, marks, told_now, marks_now):
    """Tuples (row, column, old, new) of the spots that are told by a colour of another mark than ahead."""
    spots = []
    for row, (olds, news) in enumerate(zip(told, told_now)):
        for column, (old, new) in enumerate(zip(olds, news)):
            if marks[old] != marks_now[new]:
                spots.append((row, column, old, new))
    return spots


class Painting:
    """A picture and a palette of its own, each spot told by the nearest."""

    def __init__(self, picture, palette):
        # These lists are never changed but exchanged for others, so that the past may hold them as they were.
        self.spots = [list(row) for row in picture]
        self.colours = list(palette)
        # A mark stays with its colour, whatever the colour's number gets.
        self.marks = list(range(len(palette)))
        self.told = numbers_by(self.spots, self.colours)
        self.past = []

    def set_spot(self, row, column, colour):
        """Gives a spot of the picture another colour; tells what that changes."""
        if not 0 <= row < len(self.spots) or not 0 <= column < len(self.spots[row]):
            raise NoSpot(f"there is no spot {row}, {column}")
        spots = [list(each) for each in self.spots]
        spots[row][column] = colour
        return self.change(spots, self.colours, self.marks)

    def put_colour(self, colour):
        """Puts one colour more behind the palette's others; tells what that changes."""
        mark = max(self.marks) + 1
        return self.change(self.spots, self.colours + [colour], self.marks + [mark])

    def turn_colour(self, n, colour):
        """Turns a colour of the palette to another one; tells what that changes."""
        self.need(n)
        return self.change(self.spots, self.colours[:n] + [colour] + self.colours[n + 1:], self.marks)

    def take_colour(self, n):
        """Takes a colour out of the palette; tells what that changes."""
        self.need(n)
        if len(self.colours) == 1:
            raise LastColour("the only colour stays")
        return self.change(self.spots, self.colours[:n] + self.colours[n + 1:], self.marks[:n] + self.marks[n + 1:])

    def numbers(self):
        """For each spot the number by which it is told."""
        return [list(row) for row in self.told]

    def palette(self):
        """The palette as it is now."""
        return list(self.colours)

    def picture(self):
        """The picture as it is now."""
        return [list(row) for row in self.spots]

    def lost(self):
        """The sum of how far the spots are apart from what they are told by."""
        return lost_in(self.spots, painted(self.told, self.colours))

    def undo(self):
        """Takes the last change back that is still done, None where there is none; tells what that changes."""
        if self.past == []:
            return None
        spots, colours, marks = self.past.pop()
        return self.become(spots, colours, marks)

    def need(self, n):
        """Refuses a number by which there is no colour."""
        if not 0 <= n < len(self.colours):
            raise NoColour(f"there is no colour {n}")

    def change(self, spots, colours, marks):
        """Becomes this picture and palette, and keeps what was there to be taken back to."""
        self.past.append((self.spots, self.colours, self.marks))
        return self.become(spots, colours, marks)

    def become(self, spots, colours, marks):
        """Has this picture and palette from now on; tells the spots that are told by another colour than ahead."""
        told = numbers_by(spots, colours)
        changed = spots_otherwise(self.told, self.marks, told, marks)
        self.spots, self.colours, self.marks, self.told = spots, colours, marks, told
        return changed
