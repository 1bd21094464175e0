"""Rules of a part that no surroundings can tell."""

from onelate.books import without_rules
from onelate.parts import inner_book
from onelate.pieces import least_among, ways_of
from onelate.weights import refuse_heavy


def needless_rules(part):
    """The ascending tuple of the (cell, rule) without which the part is alike; Heavy(found) of the inner book."""
    ways = ways_to_form(part)
    return tuple(bar for bar in all_bars(part[1]) if len(part[1][bar[0]]) > 1 and all_without(ways, bar))


def spare_part(part):
    """The part without the rules that are needless, from the last to the first; Heavy(found) of the inner book."""
    ways = ways_to_form(part)
    left = part[1]
    for bar in reversed(all_bars(part[1])):
        if len(left[bar[0]]) > 1 and all_without(ways, bar):
            ways = [[way for way in some if bar not in way] for some in ways]
            left = without_rules(left, (bar,))
    return (part[0], left, part[2])


def ways_to_form(part):
    """For each least piece of each shown cell the list of the ways to it; Heavy(found) of the inner book."""
    refuse_heavy(inner_book(part))
    told = []
    for cell in part[2]:
        ways = ways_of(part, cell)
        told.extend([ways[piece] for piece in least_among(sorted(ways))])
    return told


def all_without(ways, bar):
    """Whether to each least piece there is a way without a rule."""
    # Without the rule a cell has some of its pieces. A least one is at most a mixture of
    # these only if it is one of them, so the part is alike exactly if all of them are left.
    return all(any(bar not in way for way in some) for some in ways)


def all_bars(cells):
    """The ascending list of all (cell, rule)."""
    return [(cell, rule) for cell in range(len(cells)) for rule in range(len(cells[cell]))]
