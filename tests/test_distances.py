"""[19]: distances."""

import random
import unittest

from onelate.books import plain_book
from onelate.distances import apart, distances, greatest_by
from onelate.errors import NoTurn
from onelate.rows import ran, worked_out
from tests.judge import (
    HALF, ONE, TWO, ZERO, as_tuple, make_book, make_fraction, make_row, make_start, number)

BOOK = (((ONE, ((-1, 2), ZERO)),), (((5, 1), (ONE, HALF)), (TWO, (ZERO, ZERO))))


def size(fraction):
    return as_tuple(abs(number(fraction)))


class DistancesTest(unittest.TestCase):
    def test_apart(self):
        one, other = ((ZERO, ONE), (TWO, (-1, 3))), ((HALF, ONE), ((-1, 1), (1, 3)))
        self.assertEqual(apart(one, other), ((HALF, ZERO), ((3, 1), (2, 3))))
        self.assertEqual(apart(other, one), apart(one, other))
        self.assertEqual(apart(one, one), ((ZERO, ZERO), (ZERO, ZERO)))
        self.assertEqual(apart(((ONE, ZERO),), ((ZERO, (3, 1)),)), ((ONE, (3, 1)),))

    def test_distances(self):
        one, other = ((ZERO, ONE), (TWO, TWO)), ((ONE, (-2, 1)), (TWO, ZERO))
        row = ((0, 0, (0, 0)), (0, 0, (2, 0)), (1, 0, (1, 1)), (1, 1, (0, 0)))
        self.assertEqual(distances(BOOK, one, other, row), [HALF, (3, 2), (3, 2), ZERO])
        self.assertEqual(distances(BOOK, one, other, ()), [])

    def test_a_course_and_itself(self):
        chance = random.Random(3)
        start = make_start(chance, BOOK)
        self.assertEqual(distances(BOOK, start, start, make_row(chance, BOOK, 9, 5)), [ZERO] * 9)

    def test_of_two_courses_and_by_the_plain_book(self):
        chance = random.Random(19)
        for _ in range(60):
            book = make_book(chance, chance.randint(1, 5), 3, lambda: make_fraction(chance, 9, 9))
            one, other = make_start(chance, book), make_start(chance, book)
            aged = make_row(chance, book, chance.randint(0, 15), chance.choice((1, 9)))
            found = distances(book, one, other, aged)
            pairs = zip(worked_out(book, one, aged), worked_out(book, other, aged))
            self.assertEqual(found, [as_tuple(abs(number(mine) - number(yours))) for mine, yours in pairs])
            gaps = tuple(
                tuple(as_tuple(number(mine[at]) - number(yours[at])) for at in range(2))
                for mine, yours in zip(one, other))
            self.assertEqual(found, [size(value) for value in worked_out(plain_book(book), gaps, aged)])
            behind = apart(ran(book, one, aged), ran(book, other, aged))
            plain = ran(plain_book(book), gaps, aged)
            self.assertEqual(behind, tuple((size(newest), size(ahead)) for newest, ahead in plain))

    def test_no_turn(self):
        fine = (1, 0, (1, 1))
        for row, index in [(((1, 0, (0, 2)),), 0), ((fine, (1, 0, (1, 2)), (0, 0, (3, 0)), (0, 0, (9, 0))), 2)]:
            with self.assertRaises(NoTurn) as caught:
                distances(BOOK, ((ZERO, ONE),) * 2, ((ONE, ONE),) * 2, row)
            self.assertEqual(caught.exception.index, index)

    def test_greatest_by(self):
        self.assertEqual(greatest_by((ONE,), ((ZERO, ZERO),)), ZERO)
        self.assertEqual(greatest_by((HALF,), ((ONE, (-3, 1)),)), (6, 1))
        self.assertEqual(greatest_by((HALF, TWO), ((ONE, ZERO), (ZERO, (-3, 1)))), TWO)
        self.assertEqual(greatest_by((TWO, HALF), ((ONE, ZERO), ((-3, 1), ONE))), (6, 1))
        self.assertEqual(greatest_by(((2, 3), (1, 7)), (((1, 3), HALF), (ZERO, (1, 9)))), (7, 9))
