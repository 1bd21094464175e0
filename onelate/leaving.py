"""Rows that bring cells near to the ends of their ever boxes, or out of bounds."""

from onelate.boxes import end_rule, lies_in
from onelate.errors import TooMany
from onelate.ever import EndRow, ever_box, start_places
from onelate.fractions import compare, less, size_of
from onelate.nearing import Misses

MOST_ROUNDS = 60


def near_row(book, start, cell, side, nearness):
    """The ever rounds up to a value of a cell so near to an end, () if one of the start is.

    Heavy(found), TooMany(60).
    """
    box = ever_box(book, start)
    end = box[cell][side]
    if any(compare(size_of(less(end, value)), nearness) <= 0 for value in start[cell]):
        return ()
    return ever_row(book, start, box, (cell, side), (nearness, 0))


def leaving_row(book, start, bounds):
    """The ever rounds up to a value beyond the bounds, () if one of the start is, None if none ever is.

    Heavy(found), TooMany(60).
    """
    box = ever_box(book, start)
    if lies_in(box, bounds):
        return None
    cell, side = first_beyond(box, bounds)
    # No value is beyond the end: so one is beyond the bound exactly if it is nearer to the end than the bound.
    gap = size_of(less(box[cell][side], bounds[cell][side]))
    if any(compare(size_of(less(box[cell][side], value)), gap) < 0 for value in start[cell]):
        return ()
    return ever_row(book, start, box, (cell, side), (gap, -1))


def first_beyond(box, bounds):
    """The least (cell, side) whose end is beyond its bound, for a box that does not lie in bounds."""
    for cell, (own, bound) in enumerate(zip(box, bounds)):
        if compare(own[0], bound[0]) < 0:
            return (cell, 0)
        if compare(own[1], bound[1]) > 0:
            return (cell, 1)
    return None


def ever_row(book, start, box, end, limit):
    """The EVER ROUNDS up to the first turn for an end (cell, side) whose value is near to it; TooMany(60).

    limit is a tuple (gap, most): what is missing to the end is at most gap if most is 0, below it if it is -1.
    """
    gap, most = limit
    turns = turns_for_ends(book, start, box)
    left = Misses([missing(pair, ends) for pair, ends in zip(start, box)])
    made = EndRow(start, box)
    for _ in range(MOST_ROUNDS):
        for cell, side, rule in turns:
            factors = book[cell][rule][1]
            made.turn(cell, side, rule, factors)
            left.turn(cell, side, factors)
            if (cell, side) == end and left.compared(cell, side, gap) <= most:
                return made.row()
    raise TooMany(MOST_ROUNDS)


def turns_for_ends(book, start, box):
    """The list of the turns (cell, side, rule) of one of the EVER ROUNDS."""
    turns = []
    for cell in range(len(book)):
        places = start_places(start[cell], box[cell])
        for side in (1, 0):
            if places[side] is None:
                turns.append((cell, side, end_rule(book[cell], box, side)))
    return turns


def missing(pair, ends):
    """How far what stands for each end of a cell at first is from it: the end itself, or else the newest value."""
    places = start_places(pair, ends)
    return tuple((0, 1) if place is not None else less(pair[0], end) for place, end in zip(places, ends))
