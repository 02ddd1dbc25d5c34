"""What the words of a text's rows are read as; a word that is not so written is refused."""

from fewcolours.errors import ColourError

FIGURES = "0123456789"
MOST_FIGURES = 9
GREATEST = 999999999
GREATEST_IN_COLOUR = 999
LONGEST_SIDE = 16
FARTHEST_SHARE = 2
MOST_PARTS = 64


class BadWord(ColourError):
    """The words of a row are not such as may stand there."""


def is_plain_number(word):
    """Whether a word is of one to nine figures, without a nought ahead of others."""
    if not 1 <= len(word) <= MOST_FIGURES or not all([sign in FIGURES for sign in word]):
        return False
    return word == "0" or word[0] != "0"


def number_in(word, low, high):
    """The number, from low to high, that a word is."""
    if not is_plain_number(word):
        raise BadWord("this is no number")
    number = int(word)
    if not low <= number <= high:
        raise BadWord("the number is too small or too great")
    return number


def colour_in(word, wide):
    """The colour of that width that a word is."""
    places = word.split("/")
    if len(places) != wide:
        raise BadWord("this is no colour of the width")
    return tuple([number_in(place, 0, GREATEST_IN_COLOUR) for place in places])


def palette_in(words, wide, most):
    """The palette of one to so many colours that the words are."""
    if not 1 <= len(words) <= most:
        raise BadWord("there are too few or too many colours")
    return [colour_in(word, wide) for word in words]


def picture_in(words, wide):
    """The picture that the words are, its rows parted by upright strokes."""
    rows = [[]]
    for word in words:
        if word == "|":
            rows.append([])
        else:
            rows[-1].append(colour_in(word, wide))
    long = len(rows[0])
    if len(rows) > LONGEST_SIDE or not 1 <= long <= LONGEST_SIDE or any([len(row) != long for row in rows]):
        raise BadWord("this is no picture")
    return rows


def across_in(word):
    """The number that a word is, with a minus ahead where it is below 0."""
    if word.startswith("-"):
        return -number_in(word[1:], 1, FARTHEST_SHARE)
    return number_in(word, 0, FARTHEST_SHARE)


def share_in(word):
    """The share (across, down, parts) that a word is."""
    places = word.split("/")
    if len(places) != 3:
        raise BadWord("this is no share")
    across = across_in(places[0])
    down = number_in(places[1], 0, FARTHEST_SHARE)
    if down == 0 and across <= 0:
        raise BadWord("this share is handed to a spot that is told already")
    return (across, down, number_in(places[2], 1, MOST_PARTS))


def shares_in(words):
    """The list of shares, maybe empty, that the words are."""
    shares = [share_in(word) for word in words]
    if len({(across, down) for across, down, parts in shares}) != len(shares):
        raise BadWord("two shares are handed to one spot")
    return shares


def way_in(word):
    """The way through the rows of a picture that a word is."""
    if word not in ("same", "turned"):
        raise BadWord("this is no way")
    return word
