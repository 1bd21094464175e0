"""How few late reads keep two courses apart."""

from itertools import permutations

from onelate.apart import apart_round
from onelate.errors import TooMany
from onelate.rows import late_reads

MOST_CELLS = 5


def late_reads_of(book, found, order, signs):
    """How many cells stand in late in the round of this order and these signs."""
    return late_reads(apart_round(book, found, order, signs))


def fewest_late(book, found):
    """The least tuple (many, order, signs), the lot standing first; TooMany(5) for a greater lot."""
    lot = found[1]
    if len(lot) > MOST_CELLS:
        raise TooMany(MOST_CELLS)
    rest = tuple(cell for cell in range(len(book)) if cell not in lot)
    cells = list(lot)
    told = []
    for front in permutations(cells):
        for signs in all_signs(len(lot)):
            told.append((late_reads_of(book, found, front + rest, signs), front + rest, signs))
    return min(told)


def all_signs(many):
    """The ascending list of all tuples of so many signs."""
    some = [()]
    for _ in range(many):
        some = [signs + (sign,) for signs in some for sign in (-1, 1)]
    return some
