"""Ever boxes: what no aged row leads out of, and which of their ends are come to."""

from onelate.boxes import box_with, end_by, side_read
from onelate.forms import is_box
from onelate.fractions import greatest, least
from onelate.weights import refuse_heavy


class EndRow:
    """An aged row whose turns work out values for the ends of an ever box, each read at its age."""

    def __init__(self, start, box):
        self._many = [2] * len(box)
        self._places = [read_places(pair, ends) for pair, ends in zip(start, box)]
        self._turns = []

    def turn(self, cell, side, rule, factors):
        """Adds the turn of a cell, by a rule with these factors, for the end of a side."""
        ages = []
        for factor, many, places in zip(factors, self._many, self._places):
            ages.append(0 if factor[0] == 0 else many - 1 - places[side_read(factor, side)])
        self._turns.append((cell, rule, tuple(ages)))
        self._places[cell][side] = self._many[cell]
        self._many[cell] += 1

    def row(self):
        """The AGED ROW."""
        return tuple(self._turns)


def start_places(pair, ends):
    """For the low and the high of a cell, where it stands among its values of the start, None if it does not."""
    return tuple(start_place(pair, end) for end in ends)


def start_place(pair, end):
    """Where an end stands among a cell's values of the start, None if it does not."""
    # The one ahead is the first value, the newest the second one: it is taken if both are the end.
    newest, ahead = pair
    if end == newest:
        return 1
    return 0 if end == ahead else None


def read_places(pair, ends):
    """Where each end of a cell is read at first: by the newest value, if none of the start is this end."""
    return [1 if place is None else place for place in start_places(pair, ends)]


def ever_box(book, start):
    """The EVER BOX of a START; Heavy(found)."""
    refuse_heavy(book)
    return holding_box(book, start)


def holding_box(book, left):
    """The least box that holds some values for each cell, and its next box; the book has weights."""
    none = ((0, 1),) * len(book)
    more = tuple(
        cell + ((least(values), none), (greatest(values), none)) for cell, values in zip(book, left))
    return box_with(more, none)


def is_ever_box(book, start, thing):
    """Whether any value is the EVER BOX of a START; Heavy(found)."""
    box = ever_box(book, start)
    return is_box(book, thing) and thing == box


def come_to(book, start, cell, side):
    """An aged row that gives a cell the end of a side of its ever box, None if it is only neared; Heavy(found)."""
    box = ever_box(book, start)
    rules = rules_to_ends(book, start, box)
    if (cell, side) not in rules:
        return None
    needed = ends_needed(book, rules, (cell, side))
    made = EndRow(start, box)
    for end in rules:
        if end in needed and rules[end] is not None:
            made.turn(end[0], end[1], rules[end], book[end[0]][rules[end]][1])
    return made.row()


def rules_to_ends(book, start, box):
    """The dict from the ends (cell, side) that are come to, to rules that give them of those ahead.

    The ends of the start, with None in the place of a rule, stand first.
    """
    rules = {}
    for cell in range(len(book)):
        for side, place in enumerate(start_places(start[cell], box[cell])):
            if place is not None:
                rules[(cell, side)] = None
    many = -1
    while many < len(rules):
        many = len(rules)
        for cell in range(len(book)):
            for side in (0, 1):
                rule = rule_to_end(book[cell], box, side, box[cell][side], rules)
                if (cell, side) not in rules and rule is not None:
                    rules[(cell, side)] = rule
    return rules


def rule_to_end(cell, box, side, end, known):
    """The least of a cell's rules that gives an end of a side by known ends alone, None if there is none."""
    for index, rule in enumerate(cell):
        if end_by(rule, box, side) == end and all(read in known for read in ends_read(rule[1], side)):
            return index
    return None


def ends_read(factors, side):
    """The list of the ends (cell, side) that a side reads by a rule's factors."""
    return [(cell, side_read(factor, side)) for cell, factor in enumerate(factors) if factor[0] != 0]


def ends_needed(book, rules, end):
    """The list of an end and all those that its rule, or one that gives these, reads."""
    needed = [end]
    done = 0
    while done < len(needed):
        cell, side = needed[done]
        done += 1
        rule = rules[(cell, side)]
        if rule is not None:
            needed.extend([one for one in ends_read(book[cell][rule][1], side) if one not in needed])
    return needed
