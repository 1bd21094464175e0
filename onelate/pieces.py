"""Pieces: what the inputs of a part may come to in a cell, choice by choice."""

from onelate.choices import sizes_of
from onelate.fractions import compare, times, total
from onelate.mixtures import mixed
from onelate.parts import inner_book
from onelate.systems import kept_values
from onelate.weights import refuse_heavy


def pieces_of(part, cell):
    """The ascending list of the different PIECES of a cell; Heavy(found) of the inner book."""
    refuse_heavy(inner_book(part))
    return sorted(ways_of(part, cell))


def ways_of(part, cell):
    """The dict from the PIECES of a cell to the lists of all ways to them; the inner book has weights.

    A way is a tuple of (cell, rule): the rules of the cell, and of those to which it leads by them.
    """
    # What other cells choose means nothing for the piece, so only these rules are gone through.
    ways = {}
    waiting = [()]
    while waiting:
        way = waiting.pop()
        at = unchosen(part, cell, way)
        if at is None:
            ways.setdefault(piece_by(part, cell, way), []).append(way)
        else:
            waiting.extend([way + ((at, rule),) for rule in range(len(part[1][at]))])
    return ways


def unchosen(part, cell, way):
    """A cell that the way comes to and has no rule for, None if there is none."""
    chosen = {at for at, _ in way}
    if cell not in chosen:
        return cell
    for at, rule in way:
        for other in range(len(part[1])):
            if part[1][at][rule][1][other][0] != 0 and other not in chosen:
                return other
    return None


def piece_by(part, cell, way):
    """The PIECE of a cell by a way."""
    inputs, cells, _ = part
    rows = sizes_of([cells[at] for at, _ in way], [rule for _, rule in way])
    # How much of each cell's own inputs comes to this cell: it gives all of its own, and
    # each cell gives, to each that it reads, what it has come by itself times the factor.
    among = tuple(tuple(row[at] for row in rows) for at, _ in way)
    parts = kept_values(among, tuple((1, 1) if at == cell else (0, 1) for at, _ in way))
    many = len(cells)
    return tuple(total([times(by, row[many + at]) for by, row in zip(parts, rows)]) for at in range(inputs))


def shares_of(piece, pieces):
    """Shares by which a mixture of pieces is nowhere below the piece, None if there are none."""
    return mixed(piece, pieces)[0]


def parting_distances(piece, pieces):
    """Distances whose sum is greater by the piece than by each of pieces, None if there are none."""
    return mixed(piece, pieces)[1]


def least_pieces(part, cell):
    """The ascending list of the LEAST PIECES of a cell; Heavy(found) of the inner book."""
    return least_among(pieces_of(part, cell))


def least_among(pieces):
    """Those of different pieces, in order, that are not at most a mixture of the others."""
    left = not_below(pieces)
    for piece in list(left):
        others = [one for one in left if one != piece]
        # What is at most a mixture can be left out of all other mixtures.
        if others and shares_of(piece, others) is not None:
            left = others
    return left


def not_below(pieces):
    """Those of different pieces, in order, that are not below another one, or as great, in each item."""
    left = []
    for piece in pieces:
        if not any(is_below(piece, one) for one in left):
            left = [one for one in left if not is_below(one, piece)] + [piece]
    return left


def is_below(piece, other):
    """Whether no item of a piece is above that of another one."""
    return all(compare(mine, yours) <= 0 for mine, yours in zip(piece, other))
