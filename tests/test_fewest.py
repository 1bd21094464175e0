"""[25]: how few late reads keep apart."""

import unittest
from itertools import permutations, product

from onelate.errors import TooMany
from onelate.fewest import fewest_late, late_reads_of
from tests.judge import HALF, ONE, TWO, ZERO, heavy_books
from tests.test_apart import ALONE, BESIDE, LESS, RING, WHOLE, round_of


def count(book, found, order, signs):
    return sum(len(late) for _, _, late in round_of(book, found, order, signs))


def full(many, factor):
    """A book in which each of so many cells reads all others."""
    return tuple(
        ((ZERO, tuple(ZERO if other == at else factor for other in range(many))),) for at in range(many))


class FewestTest(unittest.TestCase):
    def test_ordinary(self):
        self.assertEqual(late_reads_of(RING, WHOLE, (2, 0, 1), (1, -1, 1)), 3)
        self.assertEqual(late_reads_of(RING, WHOLE, (0, 1, 2), (1, 1, 1)), 3)
        self.assertEqual(fewest_late(RING, WHOLE), (3, (0, 1, 2), (-1, -1, -1)))
        self.assertEqual(late_reads_of(BESIDE, ALONE, (1, 0, 2), (1,)), 1)

    def test_cells_beside_the_lot_stand_behind(self):
        self.assertEqual(fewest_late(BESIDE, ALONE), (1, (0, 1, 2), (-1,)))
        last = (((ONE, (ZERO,) * 4),), ((ONE, (HALF, ZERO, ZERO, (-2, 1))),), ((ONE, (ZERO, ZERO, (-1, 1), ZERO)),),
                ((ONE, (ONE, HALF, ZERO, ZERO)),))
        self.assertEqual(fewest_late(last, ((0,) * 4, (2,), (ONE,))), (0, (2, 0, 1, 3), (-1,)))
        self.assertEqual(fewest_late(last, ((0,) * 4, (1, 3), (TWO, ONE))), (0, (1, 3, 0, 2), (-1, -1)))

    def test_by_all_orders_and_signs(self):
        for chance, book, found in heavy_books(251, 150, 4):
            lot = found[1]
            rest = tuple(cell for cell in range(len(book)) if cell not in lot)
            told = []
            for front in permutations(lot):
                for signs in product((1, -1), repeat=len(lot)):
                    many = count(book, found, front + rest, signs)
                    self.assertEqual(late_reads_of(book, found, front + rest, signs), many)
                    told.append((many, front + rest, signs))
            self.assertEqual(fewest_late(book, found), min(told))
            order = tuple(chance.sample(range(len(book)), len(book)))
            signs = chance.choice(told)[2]
            self.assertEqual(late_reads_of(book, found, order, signs), count(book, found, order, signs))

    def test_too_many(self):
        five, six = full(5, HALF), full(6, HALF)
        found = ((0,) * 5, (0, 1, 2, 3, 4), (ONE,) * 5)
        many, order, signs = fewest_late(five, found)
        self.assertEqual(many, count(five, found, order, signs))
        found = ((0,) * 6, (0, 1, 2, 3, 4, 5), (ONE,) * 6)
        with self.assertRaises(TooMany) as caught:
            fewest_late(six, found)
        self.assertEqual(caught.exception.most, 5)
        self.assertEqual(late_reads_of(six, found, (0, 1, 2, 3, 4, 5), (1,) * 6), 15)

    def test_five_of_six(self):
        """A book of six cells with a lot of five is not too great."""
        book = tuple(tuple((told, factors + (HALF,)) for told, factors in cell) for cell in full(5, LESS))
        book += (((ONE, (ZERO,) * 6),),)
        found = ((0,) * 6, (0, 1, 2, 3, 4), (ONE,) * 5)
        many, order, signs = fewest_late(book, found)
        self.assertEqual(many, count(book, found, order, signs))
        self.assertEqual((order[5], signs[0]), (5, -1))
        told = [count(book, found, front + (5,), signs)
                for front in permutations(range(5)) for signs in product((-1, 1), repeat=5)]
        self.assertEqual(many, min(told))
