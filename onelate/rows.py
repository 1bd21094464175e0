"""Rows of turns, and what they work out."""

from onelate.books import value_by
from onelate.errors import NoTurn, NotLate


def as_aged(book, row):
    """The AGED ROW of a ROW."""
    return tuple(aged_turn(book, turn) for turn in row)


def aged_turn(book, turn):
    """The AGED TURN of a TURN."""
    cell, rule, late = turn
    return (cell, rule, tuple(1 if other in late else 0 for other in range(len(book))))


def as_late(book, aged_row):
    """The ROW that is the same; NotLate(index) with the first turn that has an age above 1."""
    turns = []
    for index, (cell, rule, ages) in enumerate(aged_row):
        if max(ages) > 1:
            raise NotLate(index)
        late = tuple(other for other in range(len(book)) if ages[other] == 1)
        turns.append((cell, rule, late))
    return tuple(turns)


def late_reads(row):
    """How many cells stand in late in all turns of a ROW together."""
    return sum(len(late) for _, _, late in row)


def worked_out(book, start, aged_row):
    """The list of the values that the turns work out; NoTurn(index)."""
    made, _ = gone(book, start, aged_row, value_by)
    return made


def ran(book, start, aged_row):
    """The START of the newest values, and of those ahead, behind all turns; NoTurn(index)."""
    _, pairs = gone(book, start, aged_row, value_by)
    return pairs


def gone(book, pairs, aged_row, work):
    """The tuple (list of what the turns make, newest pairs behind them); NoTurn(index).

    work tells what a rule makes of what stands for the cells: of their values or their stages.
    """
    kept = begun(pairs)
    made = []
    for index, (cell, rule, ages) in enumerate(aged_row):
        if without_age(kept, ages) is not None:
            raise NoTurn(index)
        made.append(work(book[cell][rule], at_ages(kept, ages)))
        kept[cell].append(made[-1])
    return made, newest_pairs(kept)


def begun(pairs):
    """For each cell the list of what stands for it at first, the newest last."""
    return [[ahead, newest] for newest, ahead in pairs]


def without_age(kept, ages):
    """The least cell that has nothing of its age, None if each has."""
    for cell, age in enumerate(ages):
        if age >= len(kept[cell]):
            return cell
    return None


def at_ages(kept, ages):
    """What stands for each cell at its age."""
    return tuple(of_cell[-1 - age] for of_cell, age in zip(kept, ages))


def newest_pairs(kept):
    """For each cell what is newest, and what is ahead of it."""
    return tuple((of_cell[-1], of_cell[-2]) for of_cell in kept)
