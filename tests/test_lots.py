"""[2], [5]: tied lots, and bulks that make them heavy."""

import random
import unittest
from fractions import Fraction

from onelate.lots import bulk_of, first_heavy, ties_of
from tests.judge import (
    HALF, ONE, TWO, ZERO, among, as_tuple, choices, is_heavy, make_book, make_fraction, shrinks, sizes, tied)


def wide(chance):
    return make_fraction(chance, 9, 9)


class LotsTest(unittest.TestCase):
    def test_ties(self):
        book = (((ONE, (ZERO, HALF, ZERO)), (ZERO, (ZERO, ZERO, ONE))), ((ONE, (HALF, ZERO, ZERO)),),
                ((ONE, (HALF, ZERO, (-1, 9))), (ONE, (ZERO, ZERO, ZERO))))
        self.assertEqual(ties_of(book, (0, 0, 0)), [(0, 1), (2,)])
        self.assertEqual(ties_of(book, (0, 0, 1)), [(0, 1)])
        self.assertEqual(ties_of(book, (1, 0, 0)), [(0, 2)])
        self.assertEqual(ties_of(book, (1, 0, 1)), [])

    def test_ties_by_the_words(self):
        chance = random.Random(2)
        for _ in range(150):
            book = make_book(chance, chance.randint(1, 6), 2, lambda: wide(chance), 0.75)
            for choice in choices(book)[:4]:
                self.assertEqual(ties_of(book, choice), tied(book, choice), (book, choice))

    def test_bulks_by_the_words(self):
        chance = random.Random(5)
        seen = [0, 0]
        for _ in range(150):
            top = chance.choice((9, 3, 1))
            book = make_book(
                chance, chance.randint(1, 6), 1,
                lambda: as_tuple(Fraction(chance.choice((-1, 1)) * chance.randint(1, 25 * top), 100)), 0.5)
            choice = (0,) * len(book)
            for lot in ties_of(book, choice):
                bulk = bulk_of(tuple(tuple(as_tuple(one) for one in row) for row in sizes(book, choice)), lot)
                self.assertEqual(bulk is None, shrinks(among(book, choice, lot)), book)
                seen[bulk is None] += 1
                if bulk is not None:
                    self.assertTrue(is_heavy(book, (choice, lot, bulk)), book)
        self.assertGreater(min(seen), 20)

    def test_bulks_just_at_one(self):
        for many in range(1, 7):
            ring = tuple(
                ((ZERO, tuple(((-1) ** at, 1) if other == (at + 1) % many else ZERO for other in range(many))),)
                for at in range(many))
            choice, lot, bulk = first_heavy(ring, (0,) * many)
            self.assertEqual(lot, tuple(range(many)))
            self.assertTrue(is_heavy(ring, (choice, lot, bulk)))
            less = ring[:-1] + (((ZERO, tuple((9999, 10000) if other == 0 else ZERO for other in range(many))),),)
            self.assertIsNone(first_heavy(less, (0,) * many))

    def test_the_least_heavy_lot_of_a_choice(self):
        book = (((ZERO, (HALF, ZERO, ZERO)),), ((ZERO, (ZERO, ONE, ZERO)),), ((ZERO, (TWO, ONE, TWO)),))
        self.assertEqual(first_heavy(book, (0, 0, 0))[:2], ((0, 0, 0), (1,)))
