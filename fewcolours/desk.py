"""The palettes and pictures that the rows of a text have made so far."""

from fewcolours.book import Book, is_name
from fewcolours.errors import BadName, NoName, Taken
from fewcolours.pictures import counts_in
from fewcolours.words import BadWord

MOST_PALETTES = 20
MOST_TO_CHANGE = 12


class Desk:
    """A width, None till it is told; a book of palettes; and pictures, each by a NAME."""

    def __init__(self):
        self.wide = None
        self.book = Book()
        self.pictures = {}

    def put_palette(self, name, palette):
        """Puts a palette in the book, where there is room for one."""
        if len(self.book.names()) >= MOST_PALETTES:
            raise BadWord("there are too many palettes")
        self.book.put(name, palette)

    def few_colours_of(self, name):
        """The palette by that NAME, which must be of few enough colours to be changed or to rest."""
        palette = self.book.palette_of(name)
        if len(palette) > MOST_TO_CHANGE:
            raise BadWord("the palette has too many colours")
        return palette

    def put_picture(self, name, picture):
        """Has a picture by a NAME that no picture has yet."""
        if not is_name(name):
            raise BadName("this is no NAME")
        if name in self.pictures:
            raise Taken(f"{name} is there already")
        self.pictures[name] = picture

    def picture_of(self, name):
        """The picture by that NAME."""
        if name not in self.pictures:
            raise NoName("there is no such NAME")
        return self.pictures[name]

    def counts_of(self, name, most):
        """The rows of counts of the picture by that NAME, which must be at most so many."""
        rows = counts_in(self.picture_of(name))
        if len(rows) > most:
            raise BadWord("the picture has too many colours")
        return rows
