"""Nearing rounds: by them each cell comes as near to both ends of its own box as one likes."""

from math import lcm

from onelate.boxes import box_of, end_rules, side_read
from onelate.errors import TooMany
from onelate.fractions import fraction, less

MOST_ROUNDS = 60


class Misses:
    """How far the values that stand for the ends of a box are from them, signs being kept.

    They are integers over one den: to shorten them turn by turn would take far longer.
    """

    def __init__(self, pairs):
        self._den = 1
        for low, high in pairs:
            self._den = lcm(self._den, low[1], high[1])
        self._nums = [[num * (self._den // den) for num, den in pair] for pair in pairs]

    def turn(self, cell, side, factors):
        """Works out the value for an end anew, each cell being read as the side that the end takes of it."""
        # All values and their ends keep the same rule, so its told number goes out.
        shared = 1
        for factor in factors:
            shared = lcm(shared, factor[1])
        made = 0
        for factor, read in zip(factors, self._nums):
            made += factor[0] * (shared // factor[1]) * read[side_read(factor, side)]
        self._nums = [[shared * num for num in nums] for nums in self._nums]
        self._nums[cell][side] = made
        self._den = self._den * shared

    def compared(self, cell, side, limit):
        """-1, 0 or 1: the size of a miss is less than, as great as, greater than a FRACTION."""
        left = abs(self._nums[cell][side]) * limit[1]
        right = limit[0] * self._den
        if left == right:
            return 0
        return -1 if left < right else 1

    def sizes(self):
        """For each cell the sizes of both misses."""
        return tuple(tuple(fraction(abs(num), self._den) for num in nums) for nums in self._nums)


def nearing_round(book):
    """The NEARING ROUND of a book; Heavy(found)."""
    turns = []
    for cell, (low, high) in enumerate(end_rules(book, box_of(book))):
        turns.append((cell, high, late_for_high(book[cell][high][1])))
        turns.append((cell, low, late_for_low(book[cell][low][1], cell)))
    return tuple(turns)


def late_for_high(factors):
    """What the first turn of a cell reads late."""
    return tuple(other for other, factor in enumerate(factors) if factor[0] > 0)


def late_for_low(factors, cell):
    """What the second turn of a cell reads late."""
    # Its own newest value is for its high already, that of each other cell for its low.
    return tuple(
        other for other, factor in enumerate(factors) if (factor[0] > 0 if other == cell else factor[0] < 0))


def misses(book, start, rounds):
    """For each cell how far it is from its low and its high behind so many nearing rounds; Heavy(found)."""
    box = box_of(book)
    picked = end_rules(book, box)
    left = first_misses(start, box)
    for _ in range(rounds):
        go_round(book, picked, left)
    return left.sizes()


def rounds_for(book, start, nearness):
    """The least number of nearing rounds behind which no miss is above nearness; Heavy(found), TooMany(60)."""
    box = box_of(book)
    picked = end_rules(book, box)
    left = first_misses(start, box)
    for rounds in range(MOST_ROUNDS + 1):
        if are_near(left, len(book), nearness):
            return rounds
        go_round(book, picked, left)
    raise TooMany(MOST_ROUNDS)


def first_misses(start, box):
    """The Misses of a START: of the newest values from the lows, of those ahead from the highs."""
    return Misses([
        (less(newest, low), less(ahead, high)) for (newest, ahead), (low, high) in zip(start, box)])


def go_round(book, picked, left):
    """Goes the nearing round once: for each cell its high, then its low."""
    for cell, (low, high) in enumerate(picked):
        left.turn(cell, 1, book[cell][high][1])
        left.turn(cell, 0, book[cell][low][1])


def are_near(left, many, nearness):
    """Whether no miss of so many cells is above nearness."""
    return all(left.compared(cell, side, nearness) <= 0 for cell in range(many) for side in (0, 1))
