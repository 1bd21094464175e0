"""Which part may stand for which other one, in all surroundings."""

from onelate.flat import form_of
from onelate.heavylots import heavy_lot
from onelate.parts import inner_book
from onelate.pieces import parting_distances
from onelate.weights import weights_of


def stands_for(one, other):
    """Whether one part MAY STAND FOR another one."""
    return why_not(one, other) is None


def why_not(one, other):
    """None if one part may stand for another one, otherwise what is in the way."""
    if not is_light(other):
        return None
    if not is_light(one):
        return ("inside", heavy_lot(inner_book(one)))
    for place, (mine, yours) in enumerate(zip(form_of(one), form_of(other))):
        for piece in mine:
            distances = parting_distances(piece, list(yours))
            if distances is not None:
                return ("piece", place, piece, distances)
    return None


def are_alike(one, other):
    """Whether two parts are ALIKE."""
    if is_light(one) and is_light(other):
        return form_of(one) == form_of(other)
    return is_light(one) == is_light(other)


def is_light(part):
    """Whether the inner book of a part has weights."""
    return weights_of(inner_book(part)) is not None
