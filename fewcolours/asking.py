"""The rows of a text that ask, and their answers."""

from fewcolours.best import best_groups
from fewcolours.changes import least_change
from fewcolours.handing import handed_on
from fewcolours.looking import nearest, nearest_few, within
from fewcolours.pictures import lost_with, numbers_by
from fewcolours.words import BadWord, GREATEST, colour_in, number_in, shares_in, way_in

MOST_FEW = 40
MOST_FOR_BEST = 9
MOST_GROUPS = 4
GREATEST_PRICE = 10 ** 7
NONE = "-"


def joined(words):
    """The words with a blank between, or what is told where there are none."""
    return " ".join(words) if words != [] else NONE


def numbers_told(numbers):
    """Numbers with a blank between."""
    return joined([str(number) for number in numbers])


def rows_told(rows):
    """Rows of numbers with an upright stroke between."""
    return " | ".join([numbers_told(row) for row in rows])


def hand_told(picture, palette, way, shares):
    """The numbers of what is handed on, and what is lost."""
    numbers, lost = handed_on(picture, palette, shares, way)
    return f"{rows_told(numbers)} : " + "/".join([str(number) for number in lost])


def best_told(rows, many):
    """The least total of groups, without its bottom where that is 1."""
    top, bottom = best_groups(rows, many)[0]
    return str(top) if bottom == 1 else f"{top}/{bottom}"


def change_told(one, other, price):
    """The least cost of a change, and its pairs."""
    cost, pairs = least_change(one, other, price)
    return f"{cost} : " + joined([f"{i}>{j}" for i, j in pairs])


def likest_told(desk, name, price):
    """The costs of changes to all other palettes, with their NAMEs."""
    for each in desk.book.names():
        desk.few_colours_of(each)
    return joined([f"{cost}:{other}" for cost, other in desk.book.likest(name, price)])


def for_told(desk, picture):
    """The NAME of the palette by which the least is lost, and how much that is."""
    best = desk.book.best_for(picture)
    if best is None:
        return NONE
    name, lost = best
    return f"{name} {lost}"


def price_in(word):
    """The price that a word is."""
    return number_in(word, 0, GREATEST_PRICE)


def answer(desk, words):
    """The answer to a row that asks."""
    match words:
        case ["nearest", name, word]:
            return str(nearest(desk.book.palette_of(name), colour_in(word, desk.wide)))
        case ["few", name, many, word]:
            palette = desk.book.palette_of(name)
            return numbers_told(nearest_few(palette, colour_in(word, desk.wide), number_in(many, 0, MOST_FEW)))
        case ["within", name, square, word]:
            palette = desk.book.palette_of(name)
            return numbers_told(within(palette, colour_in(word, desk.wide), number_in(square, 0, GREATEST)))
        case ["paint", picture, name]:
            return rows_told(numbers_by(desk.picture_of(picture), desk.book.palette_of(name)))
        case ["lost", picture, name]:
            return str(lost_with(desk.picture_of(picture), desk.book.palette_of(name)))
        case ["hand", picture, name, way, *shares]:
            palette = desk.book.palette_of(name)
            return hand_told(desk.picture_of(picture), palette, way_in(way), shares_in(shares))
        case ["best", picture, many]:
            return best_told(desk.counts_of(picture, MOST_FOR_BEST), number_in(many, 1, MOST_GROUPS))
        case ["change", name, other, price]:
            return change_told(desk.few_colours_of(name), desk.few_colours_of(other), price_in(price))
        case ["likest", name, price]:
            return likest_told(desk, name, price_in(price))
        case ["for", picture]:
            return for_told(desk, desk.picture_of(picture))
        case _:
            raise BadWord("no row is written so")
