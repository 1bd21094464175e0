"""Stages: how many turns, one reading of another, a value is away from the start."""

from onelate.books import reads_of
from onelate.rows import gone


def stages_of(book, aged_row):
    """The list of the stages of the values that the turns work out; NoTurn(index)."""
    made, _ = gone(book, start_stages(book), aged_row, stage_by)
    return made


def pair_stages(book, aged_row):
    """For each cell the stages of its newest value, and of the one ahead, behind all; NoTurn(index)."""
    _, pairs = gone(book, start_stages(book), aged_row, stage_by)
    return pairs


def start_stages(book):
    """The stages of the values of a start."""
    return ((0, 0),) * len(book)


def stage_by(rule, stages):
    """The stage of what a rule gives, values of these stages standing for the cells."""
    known = [stages[cell] for cell in reads_of(rule) if stages[cell] is not None]
    return min(known) + 1 if known else None
