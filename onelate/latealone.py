"""Books that come together as long as each read is prompt, and late reads alone keep apart."""

from onelate.errors import NotTold
from onelate.even import scales_of, squares_of
from onelate.heavylots import heavy_lot
from onelate.signs import signs_of
from onelate.weights import weights_of


def calm_prompt(book):
    """Whether a book comes together by all fair rows of prompt turns; NotTold()."""
    if signs_of(book) is not None:
        return weights_of(book) is not None
    if scales_of(book) is not None:
        return squares_of(book) is not None
    raise NotTold()


def late_alone(book):
    """The tuple (squares, found) of SQUARES and a HEAVY LOT, None if the book has not both; NotEven()."""
    squares = squares_of(book)
    found = heavy_lot(book)
    return None if squares is None or found is None else (squares, found)
