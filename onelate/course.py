"""A course: a book's cells, worked out turn by turn from a start."""

from onelate.books import value_by
from onelate.errors import NoAge, Nothing, Wrong
from onelate.forms import are_ages, is_book, is_index, is_late, is_start
from onelate.rows import aged_turn, at_ages, begun, newest_pairs, without_age
from onelate.stages import stage_by, start_stages


class Course:
    """A course of a book, with all its values, their stages and the turns that stand."""

    def __init__(self, book, start):
        if not is_book(book):
            raise Wrong(0)
        if not is_start(book, start):
            raise Wrong(1)
        self._book = book
        self._start = start
        self._values = begun(start)
        self._stages = begun(start_stages(book))
        self._turns = []
        self._undone = []

    def turn(self, cell, rule, late):
        """Does a TURN and returns the value that the cell gets."""
        self._refuse_no_rule(cell, rule)
        if not is_late(self._book[cell][rule], late):
            raise Wrong(2)
        return self._newly_done(aged_turn(self._book, (cell, rule, late)))

    def aged(self, cell, rule, ages):
        """Does an AGED TURN and returns the value that the cell gets; NoAge(cell)."""
        self._refuse_no_rule(cell, rule)
        if not are_ages(self._book[cell][rule], ages):
            raise Wrong(2)
        # A cell that is not read has the age 0, which is always there.
        missing = without_age(self._values, ages)
        if missing is not None:
            raise NoAge(missing)
        return self._newly_done((cell, rule, ages))

    def newest(self):
        """The tuple of the newest values."""
        return tuple(newest for newest, _ in self.pairs())

    def pairs(self):
        """The START of the newest values and those ahead of them."""
        return newest_pairs(self._values)

    def values_of(self, cell):
        """The list of all values of a cell, the first one first."""
        return list(self._values[cell])

    def stage_of(self, cell, age):
        """The stage of a cell's value of this age."""
        return self._stages[cell][-1 - age]

    def log(self):
        """The list of the aged turns that stand."""
        return list(self._turns)

    def back(self):
        """Takes the last turn back and returns it as an AGED TURN; Nothing()."""
        if not self._turns:
            raise Nothing()
        turn = self._turns.pop()
        self._values[turn[0]].pop()
        self._stages[turn[0]].pop()
        self._undone.append(turn)
        return turn

    def again(self):
        """Does once more what was taken back last, and returns what the cell gets; Nothing()."""
        if not self._undone:
            raise Nothing()
        return self._done(self._undone.pop())

    def twin(self):
        """An independent Course in the same state."""
        other = Course(self._book, self._start)
        other._values = [list(values) for values in self._values]
        other._stages = [list(stages) for stages in self._stages]
        other._turns = list(self._turns)
        other._undone = list(self._undone)
        return other

    def _refuse_no_rule(self, cell, rule):
        if not is_index(len(self._book), cell):
            raise Wrong(0)
        if not is_index(len(self._book[cell]), rule):
            raise Wrong(1)

    def _newly_done(self, turn):
        # What was taken back ahead of a new turn cannot be done again behind it.
        self._undone = []
        return self._done(turn)

    def _done(self, turn):
        cell, rule, ages = turn
        chosen = self._book[cell][rule]
        value = value_by(chosen, at_ages(self._values, ages))
        self._stages[cell].append(stage_by(chosen, at_ages(self._stages, ages)))
        self._values[cell].append(value)
        self._turns.append(turn)
        return value
