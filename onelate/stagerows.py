"""Rows by which the distances of a heavy lot keep a pace, stage by stage."""

from onelate.choices import sizes_of
from onelate.fractions import less
from onelate.lots import burden_in, led_by


def stage_starts(book, found):
    """The tuple of two STARTS: 0 everywhere, and the lot's bulk with both signs, the minus one newest."""
    bulks = dict(zip(found[1], found[2]))
    zero = (0, 1)
    other = []
    for cell in range(len(book)):
        bulk = bulks.get(cell, zero)
        other.append((less(zero, bulk), bulk))
    return (((zero, zero),) * len(book), tuple(other))


def stage_row(book, found, stages):
    """The AGED ROW in which each cell of the company has two turns in each of so many stages."""
    choice, lot, _ = found
    company = led_by(book, choice, lot[0])
    turns = []
    for cell in company:
        for minus in (0, 1):
            ages = ages_in(book[cell][choice[cell]][1], lot, cell, minus)
            turns.append((cell, choice[cell], ages))
    # Of each stage, as of the start, the two last values of a cell are meant: so all stages have the same turns.
    return tuple(turns) * stages


def ages_in(factors, lot, cell, minus):
    """The ages of a cell's first turn in a stage, or, minus being 1, of its second one."""
    ages = []
    for other, factor in enumerate(factors):
        # The plus value has the age 1 and the minus value 0, as long as the other cell had no turn in the stage.
        plus_age = 1 if other in lot and (factor[0] > 0) == (minus == 0) else 0
        done = 2 if other < cell else minus if other == cell else 0
        ages.append(0 if factor[0] == 0 else plus_age + done)
    return tuple(ages)


def stage_distances(book, found, stages):
    """The list that has for each stage, from 0 on, the dict from the cells of the lot to their distances."""
    choice, lot, bulk = found
    rows = sizes_of(book, choice)
    told = [dict(zip(lot, bulk))]
    for _ in range(stages):
        last = told[-1]
        told.append({cell: burden_in(rows[cell], last) for cell in lot})
    return told
