"""Burdens, and choices of a rule for each cell."""

from onelate.fractions import greatest, size_of, times, total


def burden_by(rule, values):
    """The BURDEN of a rule by values: the sum of size of factor times value."""
    return total([times(size_of(factor), value) for factor, value in zip(rule[1], values)])


def burdens_by(book, values):
    """For each cell the greatest burden of its rules."""
    return tuple(greatest([burden_by(rule, values) for rule in cell]) for cell in book)


def best_choice(book, values):
    """The CHOICE of the least rule with the greatest burden, for each cell."""
    return tuple(best_rule(cell, values) for cell in book)


def best_rule(cell, values):
    """The least of a cell's rules with the greatest burden."""
    burdens = [burden_by(rule, values) for rule in cell]
    return burdens.index(greatest(burdens))


def all_choices(book):
    """The ascending list of all CHOICES."""
    choices = [()]
    for cell in book:
        choices = [choice + (rule,) for choice in choices for rule in range(len(cell))]
    return choices


def sizes_of(book, choice):
    """For each cell the sizes of the factors of its chosen rule."""
    return tuple(tuple(size_of(factor) for factor in cell[rule][1]) for cell, rule in zip(book, choice))
