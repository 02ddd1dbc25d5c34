"""The rows of a text that make palettes and pictures, or let them go."""

from fewcolours.cutting import palette_by_cuts
from fewcolours.resting import palette_at_rest
from fewcolours.words import BadWord, number_in, palette_in, picture_in

MAKING = ("palette", "picture", "cut", "rest", "drop")
MOST_IN_PALETTE = 40
MOST_COUNTED = 60


def make(desk, words):
    """Does at the desk what a row that begins with one of MAKING tells."""
    match words:
        case ["palette", name, *colours]:
            desk.put_palette(name, palette_in(colours, desk.wide, MOST_IN_PALETTE))
        case ["picture", name, *colours]:
            desk.put_picture(name, picture_in(colours, desk.wide))
        case ["cut", name, picture, many]:
            rows = desk.counts_of(picture, MOST_COUNTED)
            desk.put_palette(name, palette_by_cuts(rows, number_in(many, 1, MOST_IN_PALETTE)))
        case ["rest", name, picture, palette]:
            rows = desk.counts_of(picture, MOST_COUNTED)
            desk.put_palette(name, palette_at_rest(rows, desk.few_colours_of(palette)))
        case ["drop", name]:
            desk.book.drop(name)
        case _:
            raise BadWord("the words are too few or too many")
