"""Heavy lots, by which two courses of a book can be kept apart."""

from onelate.choices import sizes_of
from onelate.forms import is_choice, is_fraction, is_lot, is_tuple_of
from onelate.fractions import compare
from onelate.lots import bulk_of, burden_in, first_heavy, ties_of
from onelate.weights import weights_of


def tied_lots(book, choice):
    """The ascending list of the TIED LOTS of a choice."""
    return ties_of(book, choice)


def can_be_heavy(book, choice, lot):
    """Whether some bulk makes a TIED LOT of a choice a HEAVY LOT."""
    return bulk_of(sizes_of(book, choice), lot) is not None


def heavy_lot(book):
    """The HEAVY LOT of the least choice that has one, its lot the least, None if there is none."""
    if weights_of(book) is not None:
        return None
    return first_heavy(book, least_heavy_choice(book))


def least_heavy_choice(book):
    """The least CHOICE that has a heavy lot, of a book without weights."""
    # A book in which some cells have one rule alone has a heavy lot exactly if some
    # choice with these rules has: so each cell in turn takes the least rule that leaves one.
    choice = ()
    left = book
    for cell in range(len(book)):
        rule = 0
        while weights_of(with_only(left, cell, rule)) is not None:
            rule += 1
        left = with_only(left, cell, rule)
        choice += (rule,)
    return choice


def with_only(book, cell, rule):
    """The book in which a cell has one of its rules alone."""
    return book[:cell] + ((book[cell][rule],),) + book[cell + 1:]


def is_heavy_lot(book, thing):
    """Whether any value is a HEAVY LOT of a book."""
    if not is_tuple_of(3, thing):
        return False
    choice, lot, bulk = thing
    if not is_choice(book, choice) or not is_lot(book, lot):
        return False
    return lot in ties_of(book, choice) and is_bulk(sizes_of(book, choice), lot, bulk)


def is_bulk(rows, lot, thing):
    """Whether any value is a bulk that makes a tied lot heavy, rows being the sizes of its choice."""
    if not is_tuple_of(len(lot), thing) or not all(is_fraction(share) and share[0] > 0 for share in thing):
        return False
    bulks = dict(zip(lot, thing))
    return all(compare(burden_in(rows[cell], bulks), bulks[cell]) >= 0 for cell in lot)
