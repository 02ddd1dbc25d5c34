"""The errors with which something is refused."""


class ColourError(ValueError):
    """What every refusal of this package is."""


class NoColour(ColourError):
    """There is no colour of that number."""


class NoSpot(ColourError):
    """There is no spot at that row and column."""


class LastColour(ColourError):
    """The only colour of a palette cannot be taken."""


class BadName(ColourError):
    """What was handed in is no NAME."""


class Taken(ColourError):
    """The NAME is there already."""


class NoName(ColourError):
    """The NAME is not there."""


class BadRow(ColourError):
    """A row of a text is not written as it must be."""

    def __init__(self, row):
        super().__init__(f"row {row} is refused")
        self.row = row
