"""Rules worked out, and books made of books."""

from onelate.errors import NoRule
from onelate.fractions import less, plus, times, total


def value_by(rule, values):
    """The VALUE of a rule by a tuple of FRACTIONS, one for each cell."""
    told, factors = rule
    return total([told] + [times(factors[cell], values[cell]) for cell in reads_of(rule)])


def reads_of(rule):
    """The ascending tuple of the cells that a rule reads."""
    return tuple(cell for cell, factor in enumerate(rule[1]) if factor[0] != 0)


def plain_book(book):
    """The book with 0 for each told number."""
    return tuple(tuple(((0, 1), factors) for _, factors in cell) for cell in book)


def chosen_book(book, choice):
    """The book in which each cell has its rule of the choice alone."""
    return tuple((cell[rule],) for cell, rule in zip(book, choice))


def scaled_book(book, by):
    """The book with each factor multiplied by a FRACTION; told numbers stay."""
    return tuple(tuple((told, scaled(factors, by)) for told, factors in cell) for cell in book)


def scaled(factors, by):
    """FRACTIONS, each multiplied by one."""
    return tuple(times(factor, by) for factor in factors)


def with_errors(book, errors):
    """The book with two rules in the place of each: told less, then plus, its cell's error."""
    return tuple(erring_cell(cell, error) for cell, error in zip(book, errors))


def erring_cell(cell, error):
    """A cell's rules, each twice: told less, then plus, the error."""
    rules = []
    for told, factors in cell:
        rules.append((less(told, error), factors))
        rules.append((plus(told, error), factors))
    return tuple(rules)


def renumbered(book, order):
    """The book whose cell i is the cell order[i] of this one, factors going along."""
    return tuple(tuple(reordered(rule, order) for rule in book[cell]) for cell in order)


def reordered(rule, order):
    """A rule whose factor i is the factor order[i] of this one."""
    told, factors = rule
    return (told, tuple(factors[cell] for cell in order))


def with_rule(book, cell, rule):
    """The book with one rule more behind those of a cell."""
    return book[:cell] + (book[cell] + (rule,),) + book[cell + 1:]


def without_rules(book, bars):
    """The book without the rules told by tuples (cell, rule); NoRule(cell) if a cell would have none."""
    cells = []
    for index, cell in enumerate(book):
        left = tuple(rule for place, rule in enumerate(cell) if (index, place) not in bars)
        if left == ():
            raise NoRule(index)
        cells.append(left)
    return tuple(cells)


def without_reads(book, reads):
    """The book with factor 0 for the cell other in all rules of cell, for tuples (cell, other)."""
    cells = []
    for index, cell in enumerate(book):
        others = [other for reader, other in reads if reader == index]
        cells.append(tuple((told, blanked(factors, others)) for told, factors in cell))
    return tuple(cells)


def blanked(factors, cells):
    """The factors, 0 for each of the cells."""
    return tuple((0, 1) if cell in cells else factor for cell, factor in enumerate(factors))
