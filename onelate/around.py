"""Surroundings that tell two parts apart."""

from onelate.fractions import over, times, total
from onelate.parts import is_surroundings, whole_book
from onelate.stands import why_not
from onelate.weights import weights_of


def parting_surroundings(one, other):
    """SURROUNDINGS that come together with other and not with one, None if one may stand for other."""
    why = why_not(one, other)
    if why is None:
        return None
    inputs, shown = one[0], len(one[2])
    if why[0] == "inside":
        factors = [((0, 1),) * shown] * max(inputs, 1)
    else:
        factors = feeding(why, shown)
    none = ((0, 1),) * len(factors)
    cells = tuple((((0, 1), none + row),) for row in factors)
    return (shown, cells, tuple(range(inputs)))


def feeding(why, shown):
    """For each input the factors by which surroundings read the shown cells, for what why_not tells of a piece."""
    _, place, piece, distances = why
    # By the piece, what comes back to the shown cell is just what it had.
    back = total([times(item, distance) for item, distance in zip(piece, distances)])
    return [
        tuple(over(distance, back) if at == place else (0, 1) for at in range(shown)) for distance in distances]


def is_parting(one, other, thing):
    """Whether any value is SURROUNDINGS of both parts that come together with other and not with one."""
    if not is_surroundings(one, thing):
        return False
    return weights_of(whole_book(one, thing)) is None and weights_of(whole_book(other, thing)) is not None
