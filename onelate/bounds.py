"""Whether a book's ends lie in bounds, and how great its errors may be."""

from onelate.books import plain_book
from onelate.boxes import box_by, box_of, box_with, end_rules, lies_in
from onelate.fractions import least, less, over
from onelate.weights import refuse_heavy


def ends_in(book, bounds):
    """Whether the own box lies in bounds; Heavy(found)."""
    return lies_in(box_of(book), bounds)


def error_box(book, errors):
    """The own box of a book whose cells err by these errors; Heavy(found)."""
    refuse_heavy(book)
    return box_with(book, errors)


def greatest_error(book, bounds):
    """The greatest error of all cells with which the own box lies in bounds, None if 0 is too great; Heavy(found)."""
    box = box_of(book)
    if not lies_in(box, bounds):
        return None
    # The ends that the same rules give go straight with the error, and the own ends are never
    # within these. So where the first of them meets its bound is not below the error sought:
    # it is that error as soon as the own box there lies in bounds, otherwise other rules count there.
    while True:
        error = first_meeting(book, end_rules(book, box), bounds)
        box = box_with(book, (error,) * len(book))
        if lies_in(box, bounds):
            return error


def first_meeting(book, picked, bounds):
    """The least error with which an end by picked rules is its bound."""
    ends = box_by(book, picked, ((0, 1),) * len(book))
    slopes = box_by(plain_book(book), picked, ((1, 1),) * len(book))
    met = []
    for of_cell, by_error, bound in zip(ends, slopes, bounds):
        met.extend([over(less(bound[side], of_cell[side]), by_error[side]) for side in (0, 1)])
    return least(met)
