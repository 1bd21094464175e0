"""Whether a tuple of FRACTIONS is at most a mixture of others, with what shows it."""

from onelate.fractions import less, over, plus, times, total

# Sought are distances from 0 on by which the piece has at least 1 more than each of the others.
# What it has above 1, by each of them, is a SURPLUS. All these numbers are counted on: the distances,
# then the surpluses. As many of them as there are distances are FREE, and 0 for now; each other one
# has a ROW: what it is if the free ones are 0, and the factor of each free one in it. None may be
# below 0: so a row that is changes places with a free number that raises it, each time the least
# ones that can. So the same numbers are never free twice (Bland's rule).


def mixed(piece, pieces):
    """The tuple (shares, distances), as shares_of and parting_distances tell them; just one is None."""
    many = len(piece)
    free = list(range(many))
    rows = {}
    for index, other in enumerate(pieces):
        rows[many + index] = [(-1, 1)] + [less(mine, yours) for mine, yours in zip(piece, other)]
    while True:
        low = [index for index in sorted(rows) if rows[index][0][0] < 0]
        if not low:
            return None, tuple(rows[index][0] if index in rows else (0, 1) for index in range(many))
        row = rows[low[0]]
        raising = [index for index, factor in zip(free, row[1:]) if factor[0] > 0]
        if not raising:
            # The number itself and the free ones, by the sizes of their factors, make less than 0: the
            # surpluses among them have what the distances have not. So these sizes show the mixture.
            sizes = {index: (-factor[0], factor[1]) for index, factor in zip(free, row[1:])}
            sizes[low[0]] = (1, 1)
            return in_shares([sizes.get(many + index, (0, 1)) for index in range(len(pieces))]), None
        rows, free = exchanged(rows, free, low[0], min(raising))


def in_shares(sizes):
    """The tuple of FRACTIONS from 0 on, not all 0, divided by their sum."""
    together = total(sizes)
    return tuple(over(size, together) for size in sizes)


def exchanged(rows, free, gone, come):
    """The tuple (rows, free) behind the change of a row with a free number."""
    place = free.index(come)
    chosen = turned_row(rows[gone], place)
    after = {come: chosen}
    for index in rows:
        if index != gone:
            after[index] = put_into(rows[index], chosen, place)
    return after, free[:place] + [gone] + free[place + 1:]


def turned_row(row, place):
    """The row of the free number at a place, which the row's own number takes."""
    by = over((-1, 1), row[1 + place])
    turned = [times(item, by) for item in row]
    turned[1 + place] = over((1, 1), row[1 + place])
    return turned


def put_into(row, chosen, place):
    """The row with the chosen one put into it for the free number at a place."""
    by = row[1 + place]
    if by[0] == 0:
        return row
    rest = row[:1 + place] + [(0, 1)] + row[2 + place:]
    return [plus(item, times(by, other)) for item, other in zip(rest, chosen)]
