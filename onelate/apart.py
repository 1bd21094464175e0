"""Rounds that keep two courses apart, whatever the order of the cells."""

from onelate.books import value_by
from onelate.forms import is_row, is_start, is_tuple_of
from onelate.fractions import compare, size_of, times
from onelate.heavylots import is_heavy_lot


def apart_start(book, found, signs):
    """The START with sign * bulk, and ahead of it the negative, in each cell of the lot, 0 beside it."""
    start = [((0, 1), (0, 1))] * len(book)
    for cell, share, sign in zip(found[1], found[2], signs):
        start[cell] = (times(share, (sign, 1)), times(share, (-sign, 1)))
    return tuple(start)


def apart_round(book, found, order, signs):
    """The round, in this order of the cells, by which the lot's values turn all their signs about."""
    choice = found[0]
    sign_of = dict(zip(found[1], signs))
    turns = []
    for place, cell in enumerate(order):
        factors = book[cell][choice[cell]][1]
        turns.append((cell, choice[cell], late_cells(factors, cell, order[:place], sign_of)))
    return tuple(turns)


def late_cells(factors, cell, done, sign_of):
    """The cells of the lot that a cell reads late, those in done having had their turns."""
    if cell not in sign_of:
        return ()
    late = []
    for other in sign_of:
        # Above 0: the other's value at the start would pull the cell to the sign it has.
        pull = sign_of[cell] * sign_of[other] * factors[other][0]
        if (other in done and pull < 0) or (other not in done and pull > 0):
            late.append(other)
    return tuple(late)


def is_apart_paper(book, thing):
    """Whether any value is an APART PAPER of a book."""
    if not is_tuple_of(3, thing) or not is_heavy_lot(book, thing[0]):
        return False
    found, start, row = thing
    if not is_far_start(book, found, start) or not is_choice_round(book, found[0], row):
        return False
    return turns_about(book, found[1], start, row)


def is_far_start(book, found, thing):
    """Whether any value is a START as an APART PAPER has it."""
    if not is_start(book, thing):
        return False
    bulks = dict(zip(found[1], found[2]))
    for cell, (newest, ahead) in enumerate(thing):
        if cell not in bulks:
            if newest[0] != 0 or ahead[0] != 0:
                return False
        elif newest[0] * ahead[0] >= 0 or not all(
                compare(size_of(value), bulks[cell]) >= 0 for value in (newest, ahead)):
            return False
    return True


def is_choice_round(book, choice, thing):
    """Whether any value is a ROW with just one turn for each cell, by its rule of the choice."""
    if not is_row(book, thing) or sorted([turn[0] for turn in thing]) != list(range(len(book))):
        return False
    return all(rule == choice[cell] for cell, rule, _ in thing)


def turns_about(book, lot, start, row):
    """Whether each value read in the lot, times its factor, has not the sign that the reader has."""
    pairs = list(start)
    for cell, rule, late in row:
        factors = book[cell][rule][1]
        values = tuple(ahead if other in late else newest for other, (newest, ahead) in enumerate(pairs))
        newest = pairs[cell][0]
        if cell in lot:
            pulls = [factors[other][0] * values[other][0] * newest[0] for other in lot if factors[other][0] != 0]
            if any(pull >= 0 for pull in pulls):
                return False
        pairs[cell] = (value_by(((0, 1), factors), values), newest)
    return True
