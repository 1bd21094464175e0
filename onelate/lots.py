"""Tied lots of a choice, and bulks that make them heavy."""

from onelate.books import reads_of
from onelate.choices import sizes_of
from onelate.fractions import compare, times, total
from onelate.systems import kept_values


def ties_of(book, choice):
    """The ascending list of the TIED LOTS of a choice."""
    led = [led_by(book, choice, cell) for cell in range(len(book))]
    lots = [tuple(other for other in led[cell] if cell in led[other]) for cell in range(len(book))]
    return sorted({lot for lot in lots if lot != ()})


def led_by(book, choice, cell):
    """The ascending list of the cells to which a cell leads by a choice."""
    return led_from([reads_of(of_cell[rule]) for of_cell, rule in zip(book, choice)], cell)


def led_from(reads, first):
    """The ascending list of the cells to which a cell leads; reads are each cell's."""
    led = set()
    waiting = [first]
    while waiting:
        cell = waiting.pop()
        for other in reads[cell]:
            if other not in led:
                led.add(other)
                waiting.append(other)
    return sorted(led)


def first_heavy(book, choice):
    """The HEAVY LOT of a choice whose lot is the least, None if it has none."""
    rows = sizes_of(book, choice)
    for lot in ties_of(book, choice):
        bulk = bulk_of(rows, lot)
        if bulk is not None:
            return (choice, lot, bulk)
    return None


def bulk_of(rows, lot):
    """A bulk for the cells of a tied lot that makes it heavy, None if there is none.

    rows are the sizes of the choice's factors. Cells are taken in one by one, as long as those
    that are in are not heavy: then they have just one bulk that they keep if the next cell has 1.
    The lot is heavy exactly if, for some cell, this gives it a burden of 1 or more.
    """
    for many, cell in enumerate(lot):
        bulks = bulks_behind(rows, lot[:many], cell)
        if compare(burden_in(rows[cell], bulks), (1, 1)) >= 0:
            # A cell with 0 leads to this one only by cells that are not in yet.
            some = {other: bulks[other] for other in bulks if bulks[other][0] > 0}
            return spread_bulk(rows, lot, some)
    return None


def bulks_behind(rows, some, cell):
    """The dict from some cells, and one more, to the bulks that the first ones keep if it has 1."""
    bulks = {cell: (1, 1)}
    if some != ():
        among = tuple(tuple(rows[reader][other] for other in some) for reader in some)
        kept = kept_values(among, tuple(rows[reader][cell] for reader in some))
        bulks.update(dict(zip(some, kept)))
    return bulks


def burden_in(row, bulks):
    """The sum of size times bulk over the cells that have a bulk."""
    return total([times(row[other], bulks[other]) for other in bulks])


def spread_bulk(rows, lot, some):
    """The bulk of a tied lot, each cell without one getting its burden by those that have one."""
    bulks = {cell: some[cell] for cell in some}
    while len(bulks) < len(lot):
        for cell in lot:
            burden = burden_in(rows[cell], bulks)
            if cell not in bulks and burden[0] > 0:
                bulks[cell] = burden
    return tuple(bulks[cell] for cell in lot)
