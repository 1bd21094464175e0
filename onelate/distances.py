"""How far two courses of a book are apart."""

from onelate.books import plain_book
from onelate.fractions import greatest, less, over, size_of
from onelate.rows import worked_out


def apart(one, other):
    """The START of the distances of the values of two STARTS."""
    return tuple((size_of(newest), size_of(ahead)) for newest, ahead in differences(one, other))


def differences(one, other):
    """The START of the differences of the values of two STARTS."""
    return tuple((less(mine[0], yours[0]), less(mine[1], yours[1])) for mine, yours in zip(one, other))


def distances(book, one, other, aged_row):
    """The list of the distances, by two STARTS, of what the turns work out; NoTurn(index)."""
    # The plain book, gone from the differences, gives the differences: one course instead of two.
    made = worked_out(plain_book(book), differences(one, other), aged_row)
    return [size_of(value) for value in made]


def greatest_by(weights, pairs):
    """The greatest quotient of the size of a value of a START and its cell's weight."""
    quotients = []
    for weight, pair in zip(weights, pairs):
        quotients.extend([over(size_of(value), weight) for value in pair])
    return greatest(quotients)
