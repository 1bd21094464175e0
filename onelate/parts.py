"""PARTS: cells with inputs, some of them shown to surroundings."""

from onelate.books import reads_of, reordered
from onelate.forms import are_cells, is_cell, is_integer, is_tuple_of


def is_part(thing):
    """Whether any value is a PART."""
    if not is_tuple_of(3, thing):
        return False
    inputs, cells, shown = thing
    if not is_integer(inputs) or inputs < 0 or not isinstance(cells, tuple) or cells == ():
        return False
    return all(is_cell(len(cells) + inputs, cell) for cell in cells) and are_cells(len(cells), shown)


def is_surroundings(part, thing):
    """Whether any value is SURROUNDINGS of a part."""
    return is_part(thing) and thing[0] == len(part[2]) and len(thing[2]) == part[0]


def inner_book(part):
    """The BOOK of the part's cells, factors of inputs left out."""
    cells = part[1]
    return tuple(tuple((told, factors[:len(cells)]) for told, factors in cell) for cell in cells)


def whole_book(part, around):
    """The WHOLE BOOK of a part and its surroundings."""
    _, cells, shown = part
    _, others, shown_around = around
    both = len(cells) + len(others)
    mine = list(range(len(cells))) + [len(cells) + place for place in shown_around]
    yours = list(range(len(cells), both)) + list(shown)
    return placed_cells(cells, mine, both) + placed_cells(others, yours, both)


def placed_cells(cells, places, many):
    """The cells, what was read at k being read at places[k], of so many places."""
    return tuple(tuple((told, placed(factors, places, many)) for told, factors in cell) for cell in cells)


def placed(factors, places, many):
    """Each factor at its place, of so many, and 0 elsewhere."""
    row = [(0, 1)] * many
    for factor, place in zip(factors, places):
        row[place] = factor
    return tuple(row)


def parted(book, lot):
    """The tuple (part, around) of the cells of a lot, and of all others."""
    others = [cell for cell in range(len(book)) if cell not in lot]
    inputs = read_among(book, lot, others)
    shown = read_among(book, others, lot)
    return (part_of(book, list(lot), inputs, shown), part_of(book, others, shown, inputs))


def read_among(book, readers, cells):
    """The list of those of the cells that some rule of the readers reads."""
    read = {other for reader in readers for rule in book[reader] for other in reads_of(rule)}
    return [cell for cell in cells if cell in read]


def part_of(book, cells, inputs, shown):
    """The PART of some cells of a book, other cells being its inputs."""
    kept = tuple(tuple(reordered(rule, cells + inputs) for rule in book[cell]) for cell in cells)
    return (len(inputs), kept, tuple(cells.index(cell) for cell in shown))


def joined_part(inputs, one, feeds, other, others):
    """One PART of two, each fed by new inputs or by what the other one shows."""
    many = len(one[1])
    both = many + len(other[1])
    shown = [many + place for place in other[2]]
    mine = list(range(many)) + fed_places(inputs, feeds, both, shown)
    yours = list(range(many, both)) + fed_places(inputs, others, both, one[2])
    cells = placed_cells(one[1], mine, both + inputs) + placed_cells(other[1], yours, both + inputs)
    return (inputs, cells, one[2] + tuple(shown))


def fed_places(inputs, feeds, both, shown):
    """Where the inputs of a part stand that are fed so, behind the cells of both or among those shown."""
    return [both + feed if feed < inputs else shown[feed - inputs] for feed in feeds]
