"""A book as a text."""

from onelate.books import reads_of
from onelate.fractions import size_of


def show_book(book, names):
    """The text of a book whose cells have these names."""
    lines = []
    for name, cell in zip(names, book):
        lines.append("cell " + name)
        for rule in cell:
            lines.append("rule " + show_sum(rule, names))
    return "\n".join(lines)


def show_sum(rule, names):
    """A rule as a SUM."""
    words = []
    for number, name in shown_terms(rule, names):
        if number[0] < 0:
            words.append("-")
        elif words:
            words.append("+")
        words.append(show_number(size_of(number)))
        if name != "":
            words.append(name)
    return " ".join(words)


def shown_terms(rule, names):
    """The terms that are shown of a rule: tuples of a number and a name, "" for no name."""
    told, factors = rule
    terms = [(factors[cell], names[cell]) for cell in reads_of(rule)]
    if told[0] == 0 and terms:
        return terms
    return [(told, "")] + terms


def show_number(number):
    """A FRACTION from 0 on as a NUMBER."""
    num, den = number
    return str(num) if den == 1 else f"{num}/{den}"
