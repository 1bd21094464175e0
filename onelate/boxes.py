"""Boxes: a low and a high for each cell. A side of a cell is 0 for its low, 1 for its high."""

from onelate.books import value_by
from onelate.forms import is_box
from onelate.fractions import compare, greatest, least, less, plus
from onelate.systems import kept_values
from onelate.weights import refuse_heavy


def high_by(rule, box):
    """The GREATEST by a rule in a box."""
    return end_by(rule, box, 1)


def low_by(rule, box):
    """The LEAST by a rule in a box."""
    return end_by(rule, box, 0)


def end_by(rule, box, side):
    """The LEAST by a rule in a box, or for side 1 the GREATEST."""
    return value_by(rule, tuple(ends[side_read(factor, side)] for factor, ends in zip(rule[1], box)))


def side_read(factor, side):
    """The side of a cell that a side reads by a factor."""
    return side if factor[0] > 0 else 1 - side


def next_box(book, box):
    """For each cell the least of the least by its rules, and the greatest of the greatest."""
    return tuple(
        (least([low_by(rule, box) for rule in cell]), greatest([high_by(rule, box) for rule in cell]))
        for cell in book)


def lies_in(one, other):
    """Whether no low of one box is below that of other, and no high above."""
    return all(
        compare(mine[0], yours[0]) >= 0 and compare(mine[1], yours[1]) <= 0 for mine, yours in zip(one, other))


def box_of(book):
    """The book's own box; Heavy(found)."""
    refuse_heavy(book)
    return box_with(book, ((0, 1),) * len(book))


def is_own_box(book, thing):
    """Whether any value is a BOX that is the book's OWN."""
    return is_box(book, thing) and next_box(book, thing) == thing


def end_of(book):
    """The lows of the own box if they are its highs, otherwise None; Heavy(found)."""
    box = box_of(book)
    if any(low != high for low, high in box):
        return None
    return tuple(low for low, _ in box)


def box_with(book, errors):
    """The own box of a book with weights whose cells err by these errors, 0 or more."""
    # From rules to rules no low is greater and no high less, and some is
    # another one, so no rules come twice; those that come last give the ends.
    better = ((0, 0),) * len(book)
    picked = None
    while better != picked:
        picked = better
        box = box_by(book, picked, errors)
        better = end_rules(book, box)
    return box


def end_rules(book, box):
    """For each cell the least rule that gives its low in the next box, and the least that gives its high."""
    return tuple((end_rule(cell, box, 0), end_rule(cell, box, 1)) for cell in book)


def end_rule(cell, box, side):
    """The least of a cell's rules that has the least, or for side 1 the greatest, in a box."""
    ends = [end_by(rule, box, side) for rule in cell]
    return ends.index(greatest(ends) if side == 1 else least(ends))


def box_by(book, picked, errors):
    """The ends that are what picked rules, as end_rules tells them, and errors give of them."""
    rows = []
    told = []
    for cell, (low, high), error in zip(book, picked, errors):
        rows.append(side_row(cell[low][1], 0))
        told.append(less(cell[low][0], error))
        rows.append(side_row(cell[high][1], 1))
        told.append(plus(cell[high][0], error))
    ends = kept_values(tuple(rows), tuple(told))
    return tuple((ends[2 * cell], ends[2 * cell + 1]) for cell in range(len(book)))


def side_row(factors, side):
    """The factors of a side, for the low and the high of each cell in turn."""
    row = []
    for factor in factors:
        read = side_read(factor, side)
        row.extend([factor if read == other else (0, 1) for other in (0, 1)])
    return tuple(row)
