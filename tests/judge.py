"""What the tests judge by, worked out apart from the program, by Python's own fractions."""

import random
from fractions import Fraction
from itertools import combinations, product

from onelate.course import Course
from onelate.errors import Wrong
from onelate.lots import bulk_of

ZERO, ONE, TWO, HALF = (0, 1), (1, 1), (2, 1), (1, 2)


def deep(levels):
    """A tuple so many levels deep."""
    thing = ()
    for _ in range(levels):
        thing = (thing,)
    return thing


def odd_values():
    """Values of many kinds, none of which is a fraction, a name, or made of tuples of fractions."""
    course = Course((((ZERO, (ZERO,)),),), ((ZERO, ZERO),))
    return [
        None, True, False, "", " ", "a b\nc", "~", "A", "toolong", "a1", [], {}, [1, 2], [0, 1], [ZERO],
        {0: ZERO}, {"a": (1, 2)}, -1, 10 ** 40 - 1, -(10 ** 40 - 1), deep(20), [deep(19)], {"a": [{}]},
        (None,), (True, True), (1, True), (True, 1), (False, 1), (0, False), (0, 0), (1, 0), (1, -1),
        (2, 4), (0, 2), (-2, 2), (1,), (1, 2, 3), ("1", "2"), ([1], [2]), ((1, 2), [3, 4]), (None, None),
        course, Wrong, Wrong(0), (course, course), tuple([None] * 3000),
    ]


def spoiled(thing):
    """The thing, each tuple in it with one part exchanged by what stands in no form, or added."""
    if not isinstance(thing, tuple):
        return
    for at, part in enumerate(thing):
        for other in (None, True, False, [part], {}, "A", deep(3), [1, 2]):
            yield thing[:at] + (other,) + thing[at + 1:]
        for other in spoiled(part):
            yield thing[:at] + (other,) + thing[at + 1:]
    yield thing + (None,)
    yield list(thing)


def number(fraction):
    return Fraction(fraction[0], fraction[1])


def as_tuple(value):
    value = Fraction(value)
    return (value.numerator, value.denominator)


def numbers(fractions):
    return [number(fraction) for fraction in fractions]


def value_of(rule, values):
    """The value of a rule by Fractions."""
    return number(rule[0]) + sum(number(factor) * value for factor, value in zip(rule[1], values))


def gone(book, start, aged_row):
    """By the words of [2] and [7]: the values and stages that each turn works out, and all that there are."""
    values = [[number(ahead), number(newest)] for newest, ahead in start]
    stages = [[0, 0] for _ in book]
    made = []
    for cell, rule, ages in aged_row:
        chosen = book[cell][rule]
        value = value_of(chosen, [values[other][-1 - age] for other, age in enumerate(ages)])
        told = [stages[other][-1 - ages[other]] for other in range(len(book)) if chosen[1][other][0] != 0]
        told = [stage for stage in told if stage is not None]
        stage = 1 + min(told) if told else None
        made.append((as_tuple(value), stage))
        values[cell].append(value)
        stages[cell].append(stage)
    return made, [[as_tuple(value) for value in row] for row in values], stages


def sizes(book, choice):
    """The sizes of the chosen rules' factors, as Fractions."""
    return [[abs(number(factor)) for factor in cell[rule][1]] for cell, rule in zip(book, choice)]


def determinant(rows):
    if not rows:
        return Fraction(1)
    whole = Fraction(0)
    for place, item in enumerate(rows[0]):
        if item != 0:
            rest = [row[:place] + row[place + 1:] for row in rows[1:]]
            whole += (-1) ** place * item * determinant(rest)
    return whole


def shrinks(rows):
    """Whether rows of numbers from 0 on have a spectral radius below 1.

    They have if 1 less rows has minors above 0 in its corner, that is, if each cell left out in turn, its own
    part put into the others, leaves something above 0.
    """
    gaps = [[(1 if at == place else 0) - item for place, item in enumerate(row)] for at, row in enumerate(rows)]
    for at, chosen in enumerate(gaps):
        if chosen[at] <= 0:
            return False
        for row in gaps[at + 1:]:
            by = row[at] / chosen[at]
            row[:] = [item - by * other for item, other in zip(row, chosen)]
    return True


def choices(book):
    return list(product(*[range(len(cell)) for cell in book]))


def has_weights(book):
    """By [5]: whether no choice keeps sizes of distances up."""
    return all(shrinks(sizes(book, choice)) for choice in choices(book))


def leads(book, choice):
    """For each cell the set of cells to which it leads by the choice, by going on until nothing is new."""
    reads = [{place for place, factor in enumerate(cell[rule][1]) if factor[0] != 0}
             for cell, rule in zip(book, choice)]
    led = [set(row) for row in reads]
    for _ in book:
        led = [row.union(*[reads[cell] for cell in row]) for row in led]
    return led


def is_tied(book, choice, lot):
    """By the words of [2]."""
    led = leads(book, choice)
    if not lot or list(lot) != sorted(set(lot)) or not all(other in led[cell] for cell in lot for other in lot):
        return False
    rest = [cell for cell in range(len(book)) if cell not in lot]
    return not any(
        all(other in led[one] for one in list(lot) + [cell] for other in list(lot) + [cell]) for cell in rest)


def lots(book):
    """All lots, tied or not."""
    return [lot for many in range(len(book)) for lot in combinations(range(len(book)), many + 1)]


def tied(book, choice):
    """The ascending list of the tied lots, by the words of [2]."""
    return sorted(lot for lot in lots(book) if is_tied(book, choice, lot))


def among(book, choice, lot):
    """The sizes of the chosen rules' factors, as Fractions, of the cells of a lot for these cells."""
    rows = sizes(book, choice)
    return [[rows[cell][other] for other in lot] for cell in lot]


def heavy_pairs(book):
    """The ascending list of all tuples (choice, lot) of heavy lots."""
    return [
        (choice, lot) for choice in choices(book) for lot in tied(book, choice)
        if not shrinks(among(book, choice, lot))]


def is_heavy(book, found):
    """Whether a tuple of the right form is a heavy lot, by the words of [2]."""
    choice, lot, bulk = found
    if len(bulk) != len(lot) or len(choice) != len(book) or not is_tied(book, choice, lot):
        return False
    if not all(number(one) > 0 and as_tuple(number(one)) == one for one in bulk):
        return False
    rows = sizes(book, choice)
    return all(
        sum(rows[cell][other] * number(share) for other, share in zip(lot, bulk)) >= number(own)
        for cell, own in zip(lot, bulk))


def are_weights(book, weights):
    """Whether a tuple of fractions is weights, by the words of [2]."""
    if len(weights) != len(book) or not all(number(weight) > 0 for weight in weights):
        return False
    return all(
        sum(abs(number(factor)) * number(weight) for factor, weight in zip(rule[1], weights)) < number(weights[at])
        for at, cell in enumerate(book) for rule in cell)


def sides(box):
    """A box by Fractions."""
    return [[number(low), number(high)] for low, high in box]


def end_in(rule, box, side):
    """The least, or for side 1 the greatest, by a rule in a box of Fractions, by the words of [2]."""
    told = number(rule[0])
    for factor, (low, high) in zip(rule[1], box):
        ends = [number(factor) * low, number(factor) * high]
        told += max(ends) if side else min(ends)
    return told


def next_of(book, box):
    """The next box, by Fractions."""
    return [
        [min(end_in(rule, box, 0) for rule in cell), max(end_in(rule, box, 1) for rule in cell)] for cell in book]


def as_box(box):
    """A box of Fractions as a tuple of tuples of fractions."""
    return tuple((as_tuple(low), as_tuple(high)) for low, high in box)


def with_told(book, left):
    """The book in which each cell has rules more that read nothing and tell these values."""
    none = (ZERO,) * len(book)
    return tuple(cell + tuple((value, none) for value in values) for cell, values in zip(book, left))


def make_fraction(chance, most, den):
    return as_tuple(Fraction(chance.randint(-most, most), chance.randint(1, den)))


def make_book(chance, cells, rules, factor, empty=0.4):
    """A book with random rules, whose factors are 0 or what factor() gives."""
    return tuple(
        tuple(
            (make_fraction(chance, 9, 9), tuple(ZERO if chance.random() < empty else factor() for _ in range(cells)))
            for _ in range(chance.randint(1, rules)))
        for _ in range(cells))


def make_start(chance, book):
    return tuple((make_fraction(chance, 9, 5), make_fraction(chance, 9, 5)) for _ in book)


def make_row(chance, book, turns, oldest=1):
    """An aged row that can be done, with ages up to the oldest one."""
    many = [2] * len(book)
    row = []
    for _ in range(turns):
        cell = chance.randrange(len(book))
        rule = chance.randrange(len(book[cell]))
        factors = book[cell][rule][1]
        ages = tuple(
            0 if factor[0] == 0 else chance.randint(0, min(oldest, many[at] - 1)) for at, factor in enumerate(factors))
        row.append((cell, rule, ages))
        many[cell] += 1
    return tuple(row)


def some_factor(chance, top):
    return lambda: as_tuple(Fraction(chance.choice((-1, 1)) * chance.randint(1, 60), 60) * top)


def some_books(seed, many, most=6):
    """Random books of at most so many cells, about as many with weights as without."""
    chance = random.Random(seed)
    for _ in range(many):
        cells = chance.randint(1, most)
        top = Fraction(chance.randint(1, 6), cells) / chance.choice((1, 2))
        yield chance, make_book(chance, cells, 3, some_factor(chance, top), chance.choice((0.2, 0.6)))


def books_with_weights(seed, many, most=6):
    """Those of such books that have weights."""
    for chance, book in some_books(seed, many, most):
        if has_weights(book):
            yield chance, book


def great_book(chance, top, rules=3, empty=0):
    """A book at the bounds, with six cells, whose factors are at most top."""
    return tuple(
        tuple(
            (make_fraction(chance, 10 ** 6, 10 ** 4),
             tuple(ZERO if chance.random() < empty else as_tuple(Fraction(chance.randint(-9999, 9999), 9999) * top)
                   for _ in range(6)))
            for _ in range(rules))
        for _ in range(6))


def heavy_books(seed, many, most=4):
    """Random books of at most so many cells with a heavy lot, and one of their heavy lots, any."""
    for chance, book in some_books(seed, many, most):
        pairs = heavy_pairs(book)
        if pairs:
            choice, lot = chance.choice(pairs)
            rows = tuple(tuple(as_tuple(size) for size in row) for row in sizes(book, choice))
            by = Fraction(chance.randint(1, 9), chance.randint(1, 9))
            bulk = tuple(as_tuple(by * number(share)) for share in bulk_of(rows, lot))
            assert is_heavy(book, (choice, lot, bulk))
            yield chance, book, (choice, lot, bulk)


def plain(book):
    return tuple(tuple((ZERO, factors) for _, factors in cell) for cell in book)


def as_ages(book, row):
    """A row as an aged row."""
    return tuple((cell, rule, tuple(int(other in late) for other in range(len(book)))) for cell, rule, late in row)


def plain_values(book, start, row):
    """All values of each cell, as Fractions, if the plain book is gone by a row."""
    _, values, _ = gone(plain(book), start, as_ages(book, row))
    return [numbers(of_cell) for of_cell in values]


def make_part(chance, cells, rules, inputs, shown=None, top=Fraction(1, 2), empty=0.3):
    """A part with random rules; factors for cells are at most top, those for inputs up to 2."""
    inner, outer = some_factor(chance, Fraction(top) / cells), some_factor(chance, 2)
    if shown is None:
        shown = tuple(cell for cell in range(cells) if chance.random() < 0.6)
    return (inputs, tuple(
        tuple(
            (make_fraction(chance, 9, 9), tuple(
                ZERO if chance.random() < empty else (inner if at < cells else outer)()
                for at in range(cells + inputs)))
            for _ in range(chance.randint(1, rules)))
        for _ in range(cells)), shown)


def inner(part):
    """The book of a part's cells, by the words of [36]."""
    _, cells, _ = part
    return tuple(tuple((told, tuple(factors[at] for at in range(len(cells)))) for told, factors in cell)
                 for cell in cells)


def light_parts(seed, many, cells=3, rules=3, inputs=3):
    """Random parts whose inner book has weights."""
    chance = random.Random(seed)
    made = 0
    while made < many:
        top = chance.choice((Fraction(1, 2), Fraction(9, 10), 2))
        part = make_part(chance, chance.randint(1, cells), rules, chance.randint(0, inputs), None, top)
        if has_weights(inner(part)):
            made += 1
            yield chance, part


def solved(rows, goals):
    """The answers, by Fractions, of rows of numbers and goals, by sweeping; the rows have just one."""
    rows = [list(row) + list(goal) for row, goal in zip(rows, goals)]
    for at in range(len(rows)):
        top = next(place for place in range(at, len(rows)) if rows[place][at] != 0)
        rows[at], rows[top] = rows[top], rows[at]
        rows[at] = [item / rows[at][at] for item in rows[at]]
        for place, row in enumerate(rows):
            if place != at:
                rows[place] = [item - row[at] * other for item, other in zip(row, rows[at])]
    return [row[len(rows):] for row in rows]


def pieces_by(part, choice):
    """For each cell its piece by a choice, by Fractions."""
    inputs, cells, _ = part
    many = len(cells)
    sized = [[abs(number(factor)) for factor in cell[rule][1]] for cell, rule in zip(cells, choice)]
    gaps = [[(at == place) - row[place] for place in range(many)] for at, row in enumerate(sized)]
    return [tuple(row) for row in solved(gaps, [row[many:] for row in sized])]


def all_pieces(part, cell):
    """The ascending list of the different pieces of a cell, by all choices."""
    return sorted({tuple(as_tuple(item) for item in pieces_by(part, choice)[cell]) for choice in choices(part[1])})


def summed(piece, distances):
    """The sum of item times distance, as a Fraction."""
    return sum((number(item) * number(distance) for item, distance in zip(piece, distances)), Fraction(0))


def is_mixed(piece, pieces, shares):
    """Whether shares show that a piece is at most a mixture of pieces, by the words of [38]."""
    return (
        isinstance(shares, tuple) and len(shares) == len(pieces) and sum(numbers(shares)) == 1
        and all(number(share) >= 0 and as_tuple(number(share)) == share for share in shares)
        and all(
            number(item) <= sum(number(share) * number(one[at]) for share, one in zip(shares, pieces))
            for at, item in enumerate(piece)))


def is_parted(piece, pieces, distances):
    """Whether distances show that it is not."""
    return (
        isinstance(distances, tuple) and len(distances) == len(piece)
        and all(number(one) >= 0 and as_tuple(number(one)) == one for one in distances)
        and all(summed(piece, distances) > summed(one, distances) for one in pieces))


def whole_of(part, around):
    """The whole book of a part and its surroundings, by the words at the top of Stage 8."""
    many, others = len(part[1]), len(around[1])
    whole = []
    for cells, other, first, own in ((part, around, 0, many), (around, part, many, others)):
        for cell in cells[1]:
            rules = []
            for told, factors in cell:
                row = [ZERO] * (many + others)
                for at, factor in enumerate(factors):
                    if at < own:
                        row[first + at] = factor
                    else:
                        row[(many - first) + other[2][at - own]] = factor
                rules.append((told, tuple(row)))
            whole.append(tuple(rules))
    return tuple(whole)


def make_surroundings(chance, part, cells=3, top=1):
    """Random surroundings of a part."""
    shown = part[0]
    cells = max(chance.randint(1, cells), shown)
    around = make_part(chance, cells, 2, len(part[2]), None, top)
    return around[:2] + (tuple(sorted(chance.sample(range(cells), shown))),)
