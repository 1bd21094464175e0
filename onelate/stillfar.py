"""How far a course may still come, by the values that may still be read."""

from onelate.ever import holding_box
from onelate.fractions import greatest, less, size_of
from onelate.rows import begun, worked_out
from onelate.weights import refuse_heavy


def left_behind(book, start, row, age):
    """The LEFT values behind an AGED ROW that can be done: those of each cell up to this age, the newest first."""
    values = begun(start)
    for turn, value in zip(row, worked_out(book, start, row)):
        values[turn[0]].append(value)
    return tuple(tuple(of_cell[::-1][:age + 1]) for of_cell in values)


def still_box(book, left):
    """The least BOX that holds the LEFT values, and its next box; Heavy(found)."""
    refuse_heavy(book)
    return holding_box(book, left)


def still_far(book, left, goal):
    """For each cell how far the farther end of its still box is from its goal; Heavy(found)."""
    return tuple(
        greatest([size_of(less(aim, end)) for end in ends]) for aim, ends in zip(goal, still_box(book, left)))
