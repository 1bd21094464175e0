"""Rounds that keep the values of one cell apart."""

from onelate.apart import apart_round, apart_start
from onelate.fractions import size_of, times


def far_round(book, cell, leading):
    """The tuple (start, round, gap): in the plain book the cell's two values differ by gap at least."""
    found, steps = leading
    signs = (1,) * len(found[1])
    row = apart_round(book, found, tuple(range(len(book))), signs)
    for step in reversed(steps):
        row += step_turns(book, step)
    return (apart_start(book, found, signs), row, gap_of(book, cell, leading))


def step_turns(book, step):
    """Two turns of a step's cell, between which nothing but read has another value."""
    cell, rule, read = step
    # The cell's own value is late then, too: it is the one that the first turn read.
    late = {other for other in (cell, read) if book[cell][rule][1][other][0] != 0}
    return ((cell, rule, ()), (cell, rule, tuple(sorted(late))))


def gap_of(book, cell, leading):
    """By how much the two values of the cell differ at least."""
    (_, lot, bulk), steps = leading
    last = steps[-1][2] if steps else cell
    gap = times((2, 1), bulk[lot.index(last)])
    for reader, rule, read in steps:
        gap = times(gap, size_of(book[reader][rule][1][read]))
    return gap
