"""Books and parts by their names, and duties that they are to keep."""

from onelate.boxes import box_of, lies_in
from onelate.errors import Broken, Heavy, NoName, Nothing, Wrong
from onelate.forms import is_book, is_couple, is_fraction, is_index, is_name
from onelate.fractions import compare
from onelate.parts import is_part
from onelate.paces import book_by
from onelate.stands import stands_for
from onelate.weights import weights_of


class Works:
    """Books and parts by their names, and duties, all of which hold; what was done can be taken back."""

    def __init__(self):
        # A state is a tuple of a dict from names to tuples (word, thing), and
        # a list of duties. None is ever changed, so it may be kept and shared.
        self._state = ({}, [])
        self._ahead = []
        self._undone = []

    def put_book(self, name, book):
        """Puts a book there, in the place of what has this name; Broken(duty)."""
        refuse_no_name(name)
        if not is_book(book):
            raise Wrong(1)
        self._put(name, ("book", book))

    def put_part(self, name, part):
        """Puts a part there, in the place of what has this name; Broken(duty)."""
        refuse_no_name(name)
        if not is_part(part):
            raise Wrong(1)
        self._put(name, ("part", part))

    def drop(self, name):
        """Takes out what has this name; NoName(name), Broken(duty)."""
        refuse_no_name(name)
        held, duties = self._state
        if name not in held:
            raise NoName(name)
        left = {one: held[one] for one in held if one != name}
        refuse_broken(left, duties, name)
        self._newly(left, duties)

    def add_duty(self, duty):
        """Puts a duty behind all others; Broken(duty)."""
        if not is_duty(duty):
            raise Wrong(0)
        held, duties = self._state
        if not is_kept(held, duty):
            raise Broken(duty)
        self._newly(held, duties + [duty])

    def drop_duty(self, index):
        """Takes out the duty with an index, and returns it."""
        held, duties = self._state
        if not is_index(len(duties), index):
            raise Wrong(0)
        self._newly(held, duties[:index] + duties[index + 1:])
        return duties[index]

    def names(self):
        """The dict from all names to "book" or "part"."""
        held = self._state[0]
        return {name: held[name][0] for name in sorted(held)}

    def called(self, name):
        """The book or the part with a name; NoName(name)."""
        held = self._state[0]
        if not is_name(name) or name not in held:
            raise NoName(name)
        return held[name][1]

    def duties(self):
        """The list of the duties."""
        return list(self._state[1])

    def back(self):
        """Takes back what was done last and stands; Nothing()."""
        if not self._ahead:
            raise Nothing()
        self._undone.append(self._state)
        self._state = self._ahead.pop()

    def again(self):
        """Does once more what was taken back last; Nothing()."""
        if not self._undone:
            raise Nothing()
        self._ahead.append(self._state)
        self._state = self._undone.pop()

    def twin(self):
        """An independent Works in the same state."""
        other = Works()
        other._state = self._state
        other._ahead = list(self._ahead)
        other._undone = list(self._undone)
        return other

    def settle(self):
        """Lets nothing of what was done be taken back any more, or be done again."""
        self._ahead = []
        self._undone = []

    def _put(self, name, worth):
        held, duties = self._state
        after = {**held, name: worth}
        refuse_broken(after, duties, name)
        self._newly(after, duties)

    def _newly(self, held, duties):
        # What was taken back ahead of something new cannot be done again behind it.
        self._undone = []
        self._ahead.append(self._state)
        self._state = (held, duties)


def refuse_no_name(name):
    """Wrong(0) if a first argument, any value, is no NAME."""
    if not is_name(name):
        raise Wrong(0)


def refuse_broken(held, duties, name):
    """Broken(duty) with the first duty about a name that does not hold."""
    # All duties held, and those about other names still do.
    for duty in duties:
        if name in names_in(duty) and not is_kept(held, duty):
            raise Broken(duty)


def names_in(duty):
    """The names that a duty is about."""
    return duty[1:] if duty[0] == "stands" else duty[1:2]


def is_duty(thing):
    """Whether any value is a DUTY by form."""
    if not isinstance(thing, tuple) or not 2 <= len(thing) <= 3:
        return False
    if not is_name(thing[1]):
        return False
    if len(thing) == 2:
        return thing[0] == "together"
    if thing[0] == "within":
        return are_sides(thing[2])
    if thing[0] == "pace":
        return is_pace(thing[2])
    return thing[0] == "stands" and is_name(thing[2])


def are_sides(thing):
    """Whether any value is a tuple of tuples (low, high) of FRACTIONS, low being at most high."""
    if not isinstance(thing, tuple) or not all(is_couple(pair) for pair in thing):
        return False
    return all(compare(low, high) <= 0 for low, high in thing)


def is_pace(thing):
    """Whether any value is a FRACTION above 0 and at most 1."""
    return is_fraction(thing) and thing[0] > 0 and compare(thing, (1, 1)) <= 0


def is_kept(held, duty):
    """Whether a duty holds, of what is held by its name."""
    if duty[0] == "stands":
        return is_stand_kept(held.get(duty[1]), held.get(duty[2]))
    word, book = held.get(duty[1], ("", None))
    if word != "book":
        return False
    if duty[0] == "within":
        return len(duty[2]) == len(book) and ends_within(book, duty[2])
    if duty[0] == "pace":
        return weights_of(book_by(book, duty[2])) is not None
    return weights_of(book) is not None


def is_stand_kept(held, other):
    """Whether of two things held, None for no such name, both are parts and the other may stand for the first."""
    if held is None or other is None or held[0] != "part" or other[0] != "part":
        return False
    mine, yours = held[1], other[1]
    return mine[0] == yours[0] and len(mine[2]) == len(yours[2]) and stands_for(yours, mine)


def ends_within(book, bounds):
    """Whether a book has weights, and its own box lies in bounds."""
    try:
        return lies_in(box_of(book), bounds)
    except Heavy:
        return False
