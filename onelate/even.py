"""Even books, and their energy."""

from onelate.errors import NotEven
from onelate.fractions import less, over, times, total


def scales_of(book):
    """The SCALES of a book, None if it is not EVEN."""
    if any(len(cell) > 1 for cell in book):
        return None
    rows = [cell[0][1] for cell in book]
    if any(rows[cell][cell][0] != 0 for cell in range(len(book))):
        return None
    scales = spread_scales(rows)
    if any(scale[0] <= 0 for scale in scales) or not are_answered(rows, scales):
        return None
    return scales


def spread_scales(rows):
    """1 for the least cell of each group, and what answers the factors from cell to cell, where each is answered."""
    scales = {}
    for first in range(len(rows)):
        waiting = [] if first in scales else [first]
        scales.setdefault(first, (1, 1))
        while waiting:
            cell = waiting.pop()
            for other, factor in enumerate(rows[cell]):
                if factor[0] != 0 and rows[other][cell][0] != 0 and other not in scales:
                    scales[other] = over(times(scales[cell], factor), rows[other][cell])
                    waiting.append(other)
    return tuple(scales[cell] for cell in range(len(rows)))


def are_answered(rows, scales):
    """Whether each factor times the scale of its rule's cell is the same both ways."""
    return all(
        times(rows[cell][other], scales[cell]) == times(rows[other][cell], scales[other])
        for cell in range(len(rows)) for other in range(cell))


def energy(book, values):
    """The ENERGY of a tuple of FRACTIONS; NotEven()."""
    rows = doubled_rows(book)
    return total([
        times(item, times(values[cell], values[other]))
        for cell, row in enumerate(rows) for other, item in enumerate(row)])


def doubled_rows(book):
    """The lists of what each product of two cells' values counts in the energy; NotEven()."""
    scales = scales_of(book)
    if scales is None:
        raise NotEven()
    rows = []
    for cell, scale in enumerate(scales):
        row = [less((0, 1), times(scale, factor)) for factor in book[cell][0][1]]
        row[cell] = scale
        rows.append(row)
    return rows


def squares_of(book):
    """SQUARES of an even book, None if some values, not all 0, have an energy of 0 or below; NotEven()."""
    squares = squares_up(doubled_rows(book))
    return None if squares[-1][0][0] <= 0 else squares


def low_values(book):
    """Values, not all 0, whose energy is 0 or below, None if there are none; NotEven()."""
    squares = squares_up(doubled_rows(book))
    if squares[-1][0][0] > 0:
        return None
    # The last square counts its part, and all ahead of it are made 0.
    values = [(0, 1)] * (len(squares) - 1) + [(1, 1)] + [(0, 1)] * (len(book) - len(squares))
    for cell in range(len(squares) - 2, -1, -1):
        _, shares = squares[cell]
        behind = total([times(share, value) for share, value in zip(shares, values[cell + 1:])])
        values[cell] = less((0, 1), behind)
    return tuple(values)


def squares_up(rows):
    """The (part, shares) of the cells, up to the last one, or to the first whose part is 0 or below."""
    squares = []
    left = rows
    while left:
        part, rest = left[0][0], left[0][1:]
        if part[0] <= 0:
            return tuple(squares + [(part, ())])
        shares = tuple(over(item, part) for item in rest)
        squares.append((part, shares))
        left = [
            [less(item, times(share, other)) for item, other in zip(row[1:], rest)]
            for row, share in zip(left[1:], shares)]
    return tuple(squares)
