"""Books damped: each turn gives a part of the cell's own value, and the rest by its rule."""

from onelate.books import scaled
from onelate.forms import is_choice, is_fraction, is_lot, is_tuple_of
from onelate.fractions import compare, least, less, over, plus, size_of, times
from onelate.lots import burden_in, led_from
from onelate.weights import some_heavy, weights_of


def damped_book(book, q):
    """The book DAMPED by q."""
    return tuple(tuple(damped(rule, cell, q) for rule in rules) for cell, rules in enumerate(book))


def damped(rule, cell, q):
    """A rule of a cell that gives q of what it gave, and the rest of the cell's own value."""
    told, factors = rule
    row = list(scaled(factors, q))
    row[cell] = plus(row[cell], less((1, 1), q))
    return (times(told, q), tuple(row))


def damping_of(book):
    """The tuple (q, weights) of WEIGHTS of the book damped by q, None if there is none for any q."""
    if steep_rule(book) is not None:
        return None
    weights = weights_of(pulled_book(book))
    if weights is None:
        return None
    bounds = [over((1, 1), room) for rooms in rooms_of(book) for room in rooms]
    return (least([(1, 1)] + bounds), weights)


def stiff_lot(book):
    """A STIFF LOT, None if there is none."""
    steep = steep_rule(book)
    if steep is None:
        return some_heavy(pulled_book(book))
    cell, rule = steep
    choice = tuple(rule if at == cell else 0 for at in range(len(book)))
    return (choice, (cell,), ((1, 1),))


def rooms_of(book):
    """For each cell the list of 1 less the own factor, for each of its rules."""
    return [[less((1, 1), rule[1][cell]) for rule in rules] for cell, rules in enumerate(book)]


def steep_rule(book):
    """The least (cell, rule) whose own factor is 1 or more, None if there is none."""
    for cell, rooms in enumerate(rooms_of(book)):
        for rule, room in enumerate(rooms):
            if room[0] <= 0:
                return (cell, rule)
    return None


def pulled_book(book):
    """The book without own reads, each rule's factors divided by 1 less its own one, which is below 1.

    What is below, or at least, a cell's burden here is below, or at least, its pull there.
    """
    cells = []
    for cell, (rules, rooms) in enumerate(zip(book, rooms_of(book))):
        cells.append(tuple(divided(rule, cell, room) for rule, room in zip(rules, rooms)))
    return tuple(cells)


def divided(rule, cell, room):
    """A rule of a cell without its own read, its factors divided by the room above 0."""
    told, factors = rule
    return (told, tuple((0, 1) if at == cell else over(factor, room) for at, factor in enumerate(factors)))


def is_stiff_lot(book, thing):
    """Whether any value is a STIFF LOT of a book."""
    if not is_tuple_of(3, thing):
        return False
    choice, lot, bulk = thing
    if not is_choice(book, choice) or not is_lot(book, lot) or not is_tuple_of(len(lot), bulk):
        return False
    if not all(is_fraction(share) and share[0] > 0 for share in bulk):
        return False
    rows = [rules[rule][1] for rules, rule in zip(book, choice)]
    if not are_leading(rows, lot):
        return False
    bulks = dict(zip(lot, bulk))
    return all(compare(pull_in(rows[cell], cell, bulks), bulks[cell]) >= 0 for cell in lot)


def are_leading(rows, lot):
    """Whether each cell of a lot leads to each other one by reads, told by rows of factors, within the lot."""
    reads = [[other for other in lot if row[other][0] != 0] for row in rows]
    return all(other in led_from(reads, cell) for cell in lot for other in lot if other != cell)


def pull_in(row, cell, bulks):
    """The PULL of a rule with these factors by the bulks of some cells, the cell's own among them."""
    sizes = {other: row[other] if other == cell else size_of(row[other]) for other in bulks}
    return burden_in(sizes, bulks)
