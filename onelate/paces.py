"""Paces: by which factor distances go down from stage to stage."""

from onelate.books import scaled_book
from onelate.distances import greatest_by
from onelate.errors import TooMany
from onelate.forms import is_tuple_of
from onelate.fractions import compare, greatest, less, over, plus, times
from onelate.heavylots import heavy_lot, is_heavy_lot
from onelate.weights import is_weights, rate_by, weights_of

MOST_STAGES = 400


def book_by(book, t):
    """The book BY t: with each factor divided by t."""
    return scaled_book(book, over((1, 1), t))


def pace_side(book, t):
    """("weights", WEIGHTS) or ("heavy", a HEAVY LOT) of the book by t."""
    divided = book_by(book, t)
    weights = weights_of(divided)
    return ("heavy", heavy_lot(divided)) if weights is None else ("weights", weights)


def is_pace_side(book, t, thing):
    """Whether any value is what pace_side may tell."""
    if not is_tuple_of(2, thing):
        return False
    word, told = thing
    if word == "weights":
        return is_weights(book_by(book, t), told)
    return word == "heavy" and is_heavy_lot(book_by(book, t), told)


def pace_between(book, width):
    """A tuple (low, high), by low a HEAVY LOT or low 0, by high WEIGHTS, high at most width above low."""
    # By more than the greatest burden of 1 everywhere, this is WEIGHTS.
    num, den = rate_by(book, ((1, 1),) * len(book))
    low = (0, 1)
    high = (num // den + 1, 1)
    while compare(less(high, low), width) > 0:
        middle = times(plus(low, high), (1, 2))
        if weights_of(book_by(book, middle)) is None:
            low = middle
        else:
            high = middle
    return (low, high)


def stage_bound(weights, t, distances, stage):
    """For each cell t ** stage times its weight times the greatest quotient of a distance and its cell's weight."""
    # Powers of what is in lowest terms are in lowest terms, too.
    by = times((power(t[0], stage), power(t[1], stage)), greatest_by(weights, distances))
    return tuple(times(by, weight) for weight in weights)


def power(one, many):
    """An integer, so many times multiplied by itself."""
    if many == 0:
        return 1
    half = power(one, many // 2)
    return half * half * one if many % 2 == 1 else half * half


def stages_for(weights, t, distances, nearness):
    """The least stage from 1 on whose bound is at most nearness in each cell; TooMany(400)."""
    bound = times(greatest(weights), greatest_by(weights, distances))
    for stage in range(1, MOST_STAGES + 1):
        bound = times(bound, t)
        if compare(bound, nearness) <= 0:
            return stage
    raise TooMany(MOST_STAGES)
