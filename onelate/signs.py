"""Signs of cells by which all factors are 0 or more, and rings of links that leave no such signs."""

from onelate.books import reads_of
from onelate.cells import is_step


def signs_of(book):
    """1 or -1 for each cell, 1 for the least of each group, by which no factor is below 0; None if there are none."""
    links = links_of(book)
    signs = spread_signs(book, links)
    if any(signs[link[0]] * signs[link[2]] != sign_by(book, link) for link in links):
        return None
    return signs


def spread_signs(book, links):
    """1 for the least cell of each group, and for each other cell the sign that some links to it give."""
    signs = {}
    for first in range(len(book)):
        waiting = [] if first in signs else [first]
        signs.setdefault(first, 1)
        while waiting:
            at = waiting.pop()
            for link in links:
                to = led_to(link, at)
                if to is not None and to not in signs:
                    signs[to] = signs[at] * sign_by(book, link)
                    waiting.append(to)
    return tuple(signs[cell] for cell in range(len(book)))


def links_of(book):
    """The ascending list of the LINKS of a book."""
    links = []
    for cell, rules in enumerate(book):
        for index, rule in enumerate(rules):
            links.extend([(cell, index, read) for read in reads_of(rule)])
    return links


def sign_by(book, link):
    """-1 if a link is MINUS, otherwise 1."""
    cell, rule, read = link
    return -1 if book[cell][rule][1][read][0] < 0 else 1


def led_to(link, at):
    """The cell to which a link leads from one, None if it does not join this one."""
    if at == link[0]:
        return link[2]
    return link[0] if at == link[2] else None


def minus_ring(book):
    """A MINUS RING of as few links as there can be, None if there are signs."""
    links = links_of(book)
    rings = [first_ring(book, links, cell) for cell in range(len(book))]
    rings = [ring for ring in rings if ring is not None]
    return min(rings, key=len) if rings else None


def first_ring(book, links, cell):
    """A MINUS RING from a cell back to it with the fewest links, None if there is none."""
    # What counts of a way is where it comes to, and whether its MINUS links are odd in number.
    ways = [(cell, 1, ())]
    known = {(cell, 1)}
    done = 0
    while done < len(ways):
        at, sign, way = ways[done]
        done += 1
        for link in links:
            to = led_to(link, at)
            if to is not None and (to, sign * sign_by(book, link)) not in known:
                known.add((to, sign * sign_by(book, link)))
                ways.append((to, sign * sign_by(book, link), way + (link,)))
    back = [way for at, sign, way in ways if at == cell and sign == -1]
    return back[0] if back else None


def is_minus_ring(book, thing):
    """Whether any value is a MINUS RING, of any number of links."""
    if not isinstance(thing, tuple) or not all(is_step(book, link) for link in thing):
        return False
    minus = [link for link in thing if sign_by(book, link) < 0]
    return len(minus) % 2 == 1 and any(comes_back(thing, first) for first in (thing[0][0], thing[0][2]))


def comes_back(ring, first):
    """Whether links, each leading from where one is, lead from a cell back to it."""
    at = first
    for link in ring:
        at = led_to(link, at)
        if at is None:
            return False
    return at == first
