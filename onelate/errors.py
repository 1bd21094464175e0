"""The errors of the package, each a LateError, with its arguments as fields."""


class LateError(ValueError):
    """What all errors of the package are; it is raised nowhere itself."""


class Wrong(LateError):
    """The argument at this place, counted from 0, is not as described."""

    def __init__(self, place):
        self.place = place


class NoQuotient(LateError):
    """Something is to be divided by 0."""


class NoRule(LateError):
    """This cell would have no rule."""

    def __init__(self, cell):
        self.cell = cell


class NoText(LateError):
    """The line with this index, counted from 0, is not as a text has it."""

    def __init__(self, line):
        self.line = line


class NoAge(LateError):
    """This cell has no value of the age that is to be read."""

    def __init__(self, cell):
        self.cell = cell


class NoTurn(LateError):
    """The aged turn with this index cannot be done."""

    def __init__(self, index):
        self.index = index


class NotLate(LateError):
    """The aged turn with this index reads more than one value late."""

    def __init__(self, index):
        self.index = index


class Heavy(LateError):
    """The book has a heavy lot, found being one."""

    def __init__(self, found):
        self.found = found


class TooMany(LateError):
    """There are more than most."""

    def __init__(self, most):
        self.most = most


class NotEven(LateError):
    """The book is not even."""


class NotTold(LateError):
    """Nothing is told of such a book."""


class NoName(LateError):
    """Nothing has this name."""

    def __init__(self, name):
        self.name = name


class Broken(LateError):
    """This duty does not hold, or would not hold any more."""

    def __init__(self, duty):
        self.duty = duty


class Nothing(LateError):
    """There is nothing to be taken back, or to be done again."""


class NoCommand(LateError):
    """The line is no command."""
