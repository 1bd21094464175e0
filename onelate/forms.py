"""Whether any value is what a name says; what is asked about is the last argument."""

from math import gcd

from onelate.fractions import compare

LONGEST_NAME = 6


def is_integer(thing):
    """An int that is neither True nor False."""
    return isinstance(thing, int) and not isinstance(thing, bool)


def is_fraction(thing):
    """A tuple (num, den) in lowest terms, den from 1 on."""
    if not is_tuple_of(2, thing) or not all(is_integer(part) for part in thing):
        return False
    return thing[1] >= 1 and gcd(thing[0], thing[1]) == 1


def is_rule(many, thing):
    """A RULE for so many cells."""
    if not is_tuple_of(2, thing) or not is_tuple_of(many, thing[1]):
        return False
    return is_fraction(thing[0]) and all(is_fraction(factor) for factor in thing[1])


def is_book(thing):
    """A BOOK: at least one cell, of at least one rule for so many cells."""
    if not isinstance(thing, tuple) or thing == ():
        return False
    return all(is_cell(len(thing), cell) for cell in thing)


def is_start(book, thing):
    """A START of a book."""
    return is_tuple_of(len(book), thing) and all(is_couple(pair) for pair in thing)


def is_turn(book, thing):
    """A TURN of a book."""
    return is_turn_head(book, thing) and is_late(book[thing[0]][thing[1]], thing[2])


def is_row(book, thing):
    """A ROW of a book, perhaps without turns."""
    return isinstance(thing, tuple) and all(is_turn(book, turn) for turn in thing)


def is_round(book, thing):
    """A ROW in which each cell has a turn."""
    return is_row(book, thing) and len({turn[0] for turn in thing}) == len(book)


def is_aged_turn(book, thing):
    """An AGED TURN by form, whether it can be done or not."""
    return is_turn_head(book, thing) and are_ages(book[thing[0]][thing[1]], thing[2])


def is_aged_row(book, thing):
    """An AGED ROW by form, whether it can be done or not."""
    return isinstance(thing, tuple) and all(is_aged_turn(book, turn) for turn in thing)


def is_choice(book, thing):
    """A CHOICE of a book."""
    if not is_tuple_of(len(book), thing):
        return False
    return all(is_index(len(cell), rule) for cell, rule in zip(book, thing))


def is_lot(book, thing):
    """A LOT of a book."""
    return thing != () and are_cells(len(book), thing)


def is_box(book, thing):
    """A BOX of a book."""
    if not is_start(book, thing):
        return False
    return all(compare(low, high) <= 0 for low, high in thing)


def is_name(thing):
    """A NAME: one to six letters from a to z."""
    if not isinstance(thing, str) or not 1 <= len(thing) <= LONGEST_NAME:
        return False
    return all("a" <= sign <= "z" for sign in thing)


def are_names(book, thing):
    """A tuple of unlike NAMES, one for each cell."""
    if not is_tuple_of(len(book), thing) or not all(is_name(name) for name in thing):
        return False
    return len(set(thing)) == len(thing)


def is_tuple_of(many, thing):
    """A tuple of so many parts, of any kind."""
    return isinstance(thing, tuple) and len(thing) == many


def is_index(many, thing):
    """An index of something that has so many parts."""
    return is_integer(thing) and 0 <= thing < many


def is_couple(thing):
    """A tuple of two FRACTIONS."""
    return is_tuple_of(2, thing) and is_fraction(thing[0]) and is_fraction(thing[1])


def is_cell(many, thing):
    """A cell of a book of so many cells."""
    if not isinstance(thing, tuple) or thing == ():
        return False
    return all(is_rule(many, rule) for rule in thing)


def are_cells(many, thing):
    """An ascending tuple of cells of a book of so many cells, perhaps none."""
    if not isinstance(thing, tuple) or not all(is_index(many, cell) for cell in thing):
        return False
    return all(one < other for one, other in zip(thing, thing[1:]))


def is_turn_head(book, thing):
    """A tuple (cell, rule, anything) with a cell of the book and one of its rules."""
    if not is_tuple_of(3, thing) or not is_index(len(book), thing[0]):
        return False
    return is_index(len(book[thing[0]]), thing[1])


def is_late(rule, thing):
    """An ascending tuple of cells that the rule reads."""
    return are_cells(len(rule[1]), thing) and all(rule[1][cell][0] != 0 for cell in thing)


def are_ages(rule, thing):
    """An age for each cell, 0 for those that the rule does not read."""
    if not is_tuple_of(len(rule[1]), thing) or not all(is_integer(age) for age in thing):
        return False
    return all(age == 0 or (age > 0 and factor[0] != 0) for age, factor in zip(thing, rule[1]))
