"""Reads, rules and cells without which a book comes together. A word is "reads", "bars" or "holds"."""

from itertools import combinations

from onelate.books import without_reads, without_rules
from onelate.cells import all_reads
from onelate.choices import burden_by
from onelate.fractions import compare
from onelate.heavylots import heavy_lot
from onelate.weights import climbed, weights_of


class Healing:
    """Which lots of one sort heal a book, asked of many of them."""

    def __init__(self, book, word):
        self._book = book
        self._word = word
        self._values = {}
        self._rules = {}

    def healed_by(self, lot):
        """Whether a lot of at least one member heals."""
        # A member changes rules of its own cell alone. So for all lots with the same members of other
        # cells there is one answer to what these come to if the last member's cell has 1.
        cell = self._cell_of(lot[-1])
        beside = tuple(member for member in lot if self._cell_of(member) != cell)
        values = self._values_beside(cell, beside)
        if values is None:
            return False
        rules = self._rules_left(cell, lot[len(beside):])
        return all(compare(burden_by(rule, values), (1, 1)) < 0 for rule in rules)

    def _cell_of(self, member):
        return member if self._word == "holds" else member[0]

    def _values_beside(self, cell, lot):
        """What the cells come to if one has 1, all without a lot; None if others have a heavy lot."""
        if (cell, lot) not in self._values:
            book = book_without(book_without(self._book, self._word, lot), "holds", (cell,))
            values = None
            if weights_of(book) is not None:
                _, values = climbed(book, tuple((1, 1) if at == cell else (0, 1) for at in range(len(book))))
            self._values[(cell, lot)] = values
        return self._values[(cell, lot)]

    def _rules_left(self, cell, lot):
        """The rules of a cell without a lot."""
        if lot not in self._rules:
            self._rules[lot] = book_without(self._book, self._word, lot)[cell]
        return self._rules[lot]


def least_reads(book, most):
    """The ascending list of the lots of at most so many READS that heal, and in which no other such lot lies."""
    reads = [(cell, other) for cell, others in enumerate(all_reads(book)) for other in others]
    return least_lots(book, "reads", reads, most)


def least_bars(book, most):
    """The ascending list of the lots of at most so many BARS that heal, and in which no other such lot lies."""
    bars = [(cell, rule) for cell in range(len(book)) for rule in range(len(book[cell]))]
    return least_lots(book, "bars", bars, most)


def least_holds(book, most):
    """The ascending list of the lots of at most so many cells that heal, and in which no other such lot lies."""
    return least_lots(book, "holds", list(range(len(book))), most)


def heals(book, word, lot):
    """Whether a lot of this sort heals."""
    return weights_of(book_without(book, word, lot)) is not None


def heavy_without(book, word, lot):
    """A HEAVY LOT of what the book is without a lot, None if it heals."""
    return heavy_lot(book_without(book, word, lot))


def book_without(book, word, lot):
    """The book without some reads or bars, or with some cells held."""
    if word == "reads":
        return without_reads(book, lot)
    if word == "bars":
        return without_rules(book, lot)
    return without_reads(book, tuple((cell, other) for cell in lot for other in range(len(book))))


def least_lots(book, word, members, most):
    """What least_reads and the like tell, of these members."""
    if weights_of(book) is not None:
        return [()]
    asked = Healing(book, word)
    healing = []
    for many in range(1, most + 1):
        # Only a smaller lot can lie in one.
        smaller = list(healing)
        for lot in combinations(members, many):
            if not any(lies_in_lot(one, lot) for one in smaller) and not (word == "bars" and takes_all(book, lot)):
                if asked.healed_by(lot):
                    healing.append(lot)
    return sorted(healing)


def lies_in_lot(one, other):
    """Whether all members of one lot are members of another one."""
    return all(member in other for member in one)


def takes_all(book, bars):
    """Whether some cell has no rule without the bars."""
    return any(all((cell, rule) in bars for rule in range(len(book[cell]))) for cell in range(len(book)))
