"""Texts of palettes and pictures, and the answers to what they ask."""

from fewcolours.asking import answer
from fewcolours.desk import Desk
from fewcolours.errors import BadRow, ColourError
from fewcolours.making import MAKING, make
from fewcolours.words import BadWord, number_in

WIDEST = 5


def wide_in(words):
    """The width that the words of the first row tell."""
    if len(words) != 2 or words[0] != "wide":
        raise BadWord("the first row tells no width")
    return number_in(words[1], 1, WIDEST)


def answers_to(desk, words):
    """What a row is answered: a list of one text, or of none where it asks nothing."""
    if desk.wide is None:
        desk.wide = wide_in(words)
        return []
    if words[0] in MAKING:
        make(desk, words)
        return []
    return [answer(desk, words)]


def run(text):
    """The list of the asks' answers; the first row that is not as it must be is refused with BadRow."""
    rows = text.split("\n")
    desk = Desk()
    answers = []
    for at, row in enumerate(rows):
        if row == "":
            continue
        try:
            answers.extend(answers_to(desk, row.split(" ")))
        except ColourError:
            raise BadRow(at) from None
    if desk.wide is None:
        raise BadRow(len(rows))
    return answers
