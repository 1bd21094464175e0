"""Reaches: how far the cells of a part come if its inputs stay within some distances."""

from onelate.parts import inner_book
from onelate.weights import climbed, refuse_heavy


def reach_of(part, distances):
    """For each cell of the part the least FRACTION within which it stays; Heavy(found) of the inner book."""
    refuse_heavy(inner_book(part))
    inputs, cells, _ = part
    # Each input is taken as a cell more that reads nothing, and has its distance.
    still = (((0, 1), ((0, 1),) * (len(cells) + inputs)),)
    _, values = climbed(cells + (still,) * inputs, ((0, 1),) * len(cells) + distances)
    return values[:len(cells)]
