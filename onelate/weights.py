"""Weights, by which a book comes together."""

from onelate.choices import best_choice, burdens_by, sizes_of
from onelate.errors import Heavy
from onelate.forms import is_fraction, is_tuple_of
from onelate.fractions import compare, greatest, over, plus
from onelate.lots import first_heavy
from onelate.systems import kept_values


def weights_of(book):
    """WEIGHTS of a book, None if it has none."""
    _, weights = climbed(book, ones_for(book))
    return weights


def is_weights(book, thing):
    """Whether any value is WEIGHTS of a book."""
    if not is_tuple_of(len(book), thing) or not all(is_fraction(weight) for weight in thing):
        return False
    if any(weight[0] <= 0 for weight in thing):
        return False
    return all(compare(burden, weight) < 0 for burden, weight in zip(burdens_by(book, thing), thing))


def weights_for(book, right):
    """What is, in each cell, the greatest burden by itself and right together; Heavy(found)."""
    refuse_heavy(book)
    _, values = climbed(book, right)
    return values


def rate_by(book, values):
    """The greatest quotient of a cell's greatest burden by values above 0 and its value."""
    return greatest([over(burden, value) for burden, value in zip(burdens_by(book, values), values)])


def refuse_heavy(book):
    """Heavy(found) if the book has a heavy lot."""
    found = some_heavy(book)
    if found is not None:
        raise Heavy(found)


def some_heavy(book):
    """Some HEAVY LOT of a book, of any choice, None if there is none."""
    choice, weights = climbed(book, ones_for(book))
    return None if weights is not None else first_heavy(book, choice)


def ones_for(book):
    """1 for each cell."""
    return ((1, 1),) * len(book)


def climbed(book, right):
    """The tuple (choice, values): the greatest burdens by values and right together are values.

    The values are None if some choice has a heavy lot; choice is one that has. For this right
    must be above 0, or the book be known to have none. From choice to choice no value is less,
    and some is greater, so no choice comes twice.
    """
    values = right
    while True:
        choice = best_choice(book, values)
        values = kept_values(sizes_of(book, choice), right)
        if values is None or any(value[0] < 0 for value in values):
            return choice, None
        if values == burdened(book, values, right):
            return choice, values


def burdened(book, values, right):
    """The greatest burden by values, and right, together, for each cell."""
    return tuple(plus(burden, item) for burden, item in zip(burdens_by(book, values), right))
