"""Flat parts: what surroundings can tell of a part, and no more."""

from onelate.parts import inner_book
from onelate.pieces import least_pieces
from onelate.weights import refuse_heavy


def form_of(part):
    """For each shown cell the tuple of its LEAST PIECES; Heavy(found) of the inner book."""
    refuse_heavy(inner_book(part))
    return tuple(tuple(least_pieces(part, cell)) for cell in part[2])


def flat_part(part):
    """The part of one cell for each shown cell, with its least pieces as rules; Heavy(found) of the inner book."""
    form = form_of(part)
    none = ((0, 1),) * len(form)
    cells = tuple(tuple(((0, 1), none + piece) for piece in pieces) for pieces in form)
    return (part[0], cells, tuple(range(len(form))))
