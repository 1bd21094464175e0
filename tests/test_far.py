"""[27]: rounds for one cell."""

import random
import unittest
from fractions import Fraction

from onelate.cells import is_leading, leading_steps
from onelate.far import far_round
from onelate.forms import is_round
from tests.judge import (
    HALF, ONE, TWO, ZERO, as_tuple, great_book, make_book, number, plain_values, some_books, some_factor)
from tests.test_apart import round_of
from tests.test_cells import FOUND, PAIR, line


def far_of(book, cell, leading):
    """By the words of [27]."""
    (choice, lot, bulk), steps = leading
    order = range(len(book))
    signs = (1,) * len(lot)
    row = list(round_of(book, leading[0], order, signs))
    gap = 2 * number(bulk[lot.index(steps[-1][2] if steps else cell)])
    for reader, rule, read in steps[::-1]:
        factors = book[reader][rule][1]
        late = tuple(
            other for other in order if other == read or (other == reader and factors[other][0] != 0))
        row += [(reader, rule, ()), (reader, rule, late)]
    for reader, rule, read in steps:
        gap *= abs(number(book[reader][rule][1][read]))
    start = [(ZERO, ZERO)] * len(book)
    for one, share in zip(lot, bulk):
        start[one] = (share, as_tuple(-number(share)))
    return tuple(start), tuple(row), as_tuple(gap)


def chain_of(chance, many):
    """Each cell reads the next one and perhaps a little of itself; the last one keeps up all of its own."""
    small, factor = some_factor(chance, Fraction(1, 2)), some_factor(chance, 3)
    rows = []
    for at in range(many - 1):
        own = chance.choice((ZERO, small()))
        rows.append(((ONE, tuple(
            own if other == at else factor() if other == at + 1 else ZERO for other in range(many))),))
    return tuple(rows) + (((ONE, (ZERO,) * (many - 1) + (chance.choice((ONE, (-1, 1))),)),),)


class FarTest(unittest.TestCase):
    def judged(self, book, cell, leading):
        self.assertIs(is_leading(book, cell, leading), True, (book, cell, leading))
        start, row, gap = far_round(book, cell, leading)
        self.assertEqual((start, row, gap), far_of(book, cell, leading))
        self.assertTrue(is_round(book, row))
        for rounds in (1, 2, 3):
            newest, ahead = plain_values(book, start, row * rounds)[cell][:-3:-1]
            self.assertGreaterEqual(abs(newest - ahead), number(gap), (book, cell, leading))
        return start, row, gap

    def test_no_steps(self):
        start, row, gap = self.judged(PAIR, 0, (FOUND, ()))
        self.assertEqual(start[0], ((3, 1), (-3, 1)))
        self.assertEqual((row, gap), (((0, 0, ()), (1, 0, ()), (2, 0, ())), (6, 1)))

    def test_one_step_of_a_cell_that_reads_itself(self):
        _, row, gap = self.judged(PAIR, 1, (FOUND, ((1, 0, 0),)))
        self.assertEqual((row[3:], gap), (((1, 0, ()), (1, 0, (0, 1))), (3, 1)))

    def test_one_step_of_a_cell_that_does_not(self):
        book = (((ONE, (ZERO, (-2, 3))),), ((ONE, (ZERO, (-1, 1))),))
        _, row, gap = self.judged(book, 0, (((0, 0), (1,), (TWO,)), ((0, 0, 1),)))
        self.assertEqual(row, ((0, 0, ()), (1, 0, ()), (0, 0, ()), (0, 0, (1,))))
        self.assertEqual(gap, (8, 3))

    def test_several_steps(self):
        found = ((0,) * 5, (4,), ((5, 1),))
        _, row, gap = self.judged(line(ONE), 1, (found, ((1, 0, 2), (2, 0, 3), (3, 0, 4))))
        self.assertEqual(row[:5], ((0, 0, ()), (1, 0, ()), (2, 0, ()), (3, 0, ()), (4, 0, (4,))))
        self.assertEqual(row[5:], (
            (3, 0, ()), (3, 0, (4,)), (2, 0, ()), (2, 0, (3,)), (1, 0, ()), (1, 0, (2,))))
        self.assertEqual(gap, (5, 4))

    def test_the_lot_cell_that_is_read_tells_the_gap(self):
        ring = (((ZERO, (ZERO, TWO, ZERO)),), ((ZERO, (HALF, ZERO, ZERO)),), ((ZERO, ((1, 7), (-1, 9), (1, 3))),))
        found = ((0, 0, 0), (0, 1), ((4, 1), TWO))
        self.assertEqual(self.judged(ring, 2, (found, ((2, 0, 0),)))[2], (8, 7))
        self.assertEqual(self.judged(ring, 2, (found, ((2, 0, 1),)))[2], (4, 9))
        self.assertEqual(self.judged(ring, 1, (found, ()))[2], (4, 1))
        self.assertEqual(self.judged(ring, 0, (found, ()))[2], (8, 1))

    def test_a_steps_cell_reads_other_cells_too(self):
        """1 reads itself and 2 beside the lot; by the choice it has another rule than the step."""
        book = (((ONE, (TWO, ZERO, ZERO)),), ((TWO, (ZERO, HALF, ZERO)), (ONE, ((-1, 3), HALF, ONE))),
                ((ONE, (ZERO, (1, 5), HALF)),))
        _, row, gap = self.judged(book, 1, (((0, 0, 0), (0,), (ONE,)), ((1, 1, 0),)))
        self.assertEqual(row, ((0, 0, (0,)), (1, 0, ()), (2, 0, ()), (1, 1, ()), (1, 1, (0, 1))))
        self.assertEqual(gap, (2, 3))

    def test_read_behind_the_cell_itself(self):
        book = (((ONE, ((-1, 2), HALF)),), ((ONE, (ZERO, TWO)),))
        _, row, _ = self.judged(book, 0, (((0, 0), (1,), (ONE,)), ((0, 0, 1),)))
        self.assertEqual(row, ((0, 0, ()), (1, 0, (1,)), (0, 0, ()), (0, 0, (0, 1))))

    def test_by_the_words(self):
        many = [0] * 6
        chance = random.Random(27)
        books = [book for _, book in some_books(27, 60, 4)]
        for _ in range(60):
            books.append(make_book(chance, chance.randint(3, 6), 1, some_factor(chance, 3), 0.8))
            books.append(chain_of(chance, chance.randint(3, 6)))
        for book in books:
            for cell in range(len(book)):
                leading = leading_steps(book, cell)
                if leading is not None:
                    many[len(leading[1])] += 1
                    self.judged(book, cell, leading)
        self.assertGreater(min(many[:4]), 10, many)

    def test_at_the_bounds(self):
        for seed in range(5):
            book = great_book(random.Random(seed), 1, 3, 0.85)
            for cell in range(6):
                leading = leading_steps(book, cell)
                if leading is not None:
                    self.judged(book, cell, leading)
