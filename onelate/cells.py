"""Which cells come together by themselves, whatever becomes of the others."""

from onelate.books import reads_of, renumbered
from onelate.forms import is_index, is_tuple_of
from onelate.heavylots import is_heavy_lot
from onelate.lots import led_by, led_from
from onelate.weights import some_heavy, weights_of


def apart_cells(book):
    """The ascending tuple of the cells that do not come together."""
    reads = all_reads(book)
    return tuple(cell for cell in range(len(book)) if weights_of(book_behind(book, reads, cell)) is None)


def book_behind(book, reads, cell):
    """The book of a cell and all those to which it comes by reads of any rules."""
    # It reads no cell beside it, so its heavy lots are those that the cell is in or comes to.
    return renumbered(book, sorted(set([cell] + led_from(reads, cell))))


def all_reads(book):
    """For each cell the ascending list of the cells that some rule of it reads."""
    return [sorted({other for rule in cell for other in reads_of(rule)}) for cell in book]


def together_weights(book):
    """WEIGHTS of the book of the cells that come together alone, None for each other cell."""
    lost = apart_cells(book)
    kept = [cell for cell in range(len(book)) if cell not in lost]
    weights = dict(zip(kept, weights_of(renumbered(book, kept)))) if kept else {}
    return tuple(weights.get(cell) for cell in range(len(book)))


def leading_steps(book, cell):
    """A heavy lot and the fewest steps by which a cell comes to one, None if it comes together."""
    for last, steps in ways_from(book, cell):
        found = heavy_with(book, last)
        if found is not None:
            return (found, steps)
    return None


def ways_from(book, cell):
    """The list of tuples (cell, steps) of all cells that a cell comes to, the nearest first, itself ahead."""
    ways = [(cell, ())]
    known = {cell}
    done = 0
    while done < len(ways):
        reader, steps = ways[done]
        done += 1
        for rule, of_rule in enumerate(book[reader]):
            for other in reads_of(of_rule):
                if other not in known:
                    known.add(other)
                    ways.append((other, steps + ((reader, rule, other),)))
    return ways


def heavy_with(book, cell):
    """Some HEAVY LOT of a book with the cell in its lot, None if there is none."""
    return heavy_among(book, cell, tuple(tuple(range(len(of_cell))) for of_cell in book))


def heavy_among(book, cell, rules):
    """What heavy_with tells, by choices among these rules of each cell alone."""
    left = tuple(tuple(of_cell[rule] for rule in some) for of_cell, some in zip(book, rules))
    ring = ring_of(left, cell)
    found = some_heavy(renumbered(left, ring)) if ring else None
    if found is None:
        return None
    lot = tuple(ring[place] for place in found[1])
    if cell in lot:
        chosen = dict(zip(ring, found[0]))
        return (tuple(some[chosen.get(one, 0)] for one, some in enumerate(rules)), lot, found[2])
    # Rules of other cells would leave this lot heavy, and so tell nothing: its own go first.
    at = [one for one in lot + tuple(ring) if len(rules[one]) > 1][0]
    for rule in rules[at]:
        more = heavy_among(book, cell, rules[:at] + ((rule,),) + rules[at + 1:])
        if more is not None:
            return more
    return None


def ring_of(book, cell):
    """The ascending list of the cells that a cell comes to, and that come to it, by any rules."""
    # No tied lot with the cell, whatever the choice, has a cell that is not in it.
    reads = all_reads(book)
    return [other for other in led_from(reads, cell) if cell in led_from(reads, other)]


def is_leading(book, cell, thing):
    """Whether any value is a heavy lot and steps by which a cell comes to it."""
    if not is_tuple_of(2, thing) or not is_heavy_lot(book, thing[0]):
        return False
    (choice, lot, _), steps = thing
    if not isinstance(steps, tuple) or not all(is_step(book, step) for step in steps):
        return False
    readers = [step[0] for step in steps]
    come_to = [cell] + [step[2] for step in steps]
    if readers != come_to[:-1] or come_to[-1] not in lot or len(set(readers)) < len(readers):
        return False
    # The cells of a tied lot lead to one another, and to the same cells: so any of them tells for all.
    led = led_by(book, choice, lot[0])
    return not any(reader in led for reader in readers)


def is_step(book, thing):
    """Whether any value is a tuple (cell, rule, read) of a cell, its rule, and a cell that it reads."""
    if not is_tuple_of(3, thing) or not is_index(len(book), thing[0]):
        return False
    cell, rule, read = thing
    if not is_index(len(book[cell]), rule) or not is_index(len(book), read):
        return False
    return book[cell][rule][1][read][0] != 0
