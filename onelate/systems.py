"""Sums solved: rows of FRACTIONS, times an answer, give a goal."""

from math import lcm

from onelate.fractions import fraction, less


def solution_of(rows, goal):
    """The answer of rows and a goal if there is just one, otherwise None."""
    many = len(rows[0])
    swept, places = swept_rows([row + (item,) for row, item in zip(rows, goal)], many)
    if len(places) < many or any(row[many] != 0 for row in swept[many:]):
        return None
    return tuple(fraction(swept[place][many], swept[place][place]) for place in places)


def still_row(rows):
    """An answer, not all 0, of the rows and a goal of 0 alone, None if there is none."""
    many = len(rows[0])
    swept, places = swept_rows(rows, many)
    free = [place for place in range(many) if place not in places]
    if not free:
        return None
    answer = [(0, 1)] * many
    answer[free[0]] = (1, 1)
    for row, place in zip(swept, places):
        answer[place] = fraction(-row[free[0]], row[place])
    return tuple(answer)


def kept_values(rows, right):
    """The values that are, in each row, the sum of its items times them, and right together.

    None if there are none, or several.
    """
    gaps = []
    for at, row in enumerate(rows):
        gaps.append(tuple(less((1, 1) if place == at else (0, 1), item) for place, item in enumerate(row)))
    return solution_of(tuple(gaps), right)


def swept_rows(rows, many):
    """The tuple (rows of integers with the same answers, places), by the first so many items.

    Row k alone is not 0 at places[k]; the rows behind those of places are 0 in all of these items.
    """
    swept = [whole_row(row) for row in rows]
    places = []
    last = 1
    for place in range(many):
        top = len(places)
        found = first_other(swept, top, place)
        if found is None:
            continue
        swept[top], swept[found] = swept[found], swept[top]
        chosen = swept[top]
        swept = [row if at == top else cleared(row, chosen, place, last) for at, row in enumerate(swept)]
        last = chosen[place]
        places.append(place)
    return swept, places


def whole_row(row):
    """FRACTIONS, multiplied by the least number that makes them integers."""
    many = 1
    for _, den in row:
        many = lcm(many, den)
    return [num * (many // den) for num, den in row]


def first_other(swept, top, place):
    """The first row from top on that is not 0 at the place, None if there is none."""
    for at in range(top, len(swept)):
        if swept[at][place] != 0:
            return at
    return None


def cleared(row, chosen, place, last):
    """The row without what it has at the place, by the chosen row."""
    # All items are determinants of the first rows, so the last chosen item divides
    # them without a rest (Bareiss), and they stay as small as integers can.
    return [(chosen[place] * item - row[place] * other) // last for item, other in zip(row, chosen)]
