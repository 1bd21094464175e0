"""[30]: bounds and errors."""

import random
import unittest
from fractions import Fraction

from onelate.books import with_errors
from onelate.bounds import ends_in, error_box, greatest_error
from onelate.boxes import box_of, lies_in
from onelate.errors import Heavy
from onelate.heavylots import is_heavy_lot
from onelate.weights import weights_of
from tests.judge import (
    HALF, ONE, TWO, ZERO, as_box, as_tuple, books_with_weights, great_book, heavy_books, next_of, number, sides)
from tests.test_boxes import CELL, HEAVY, near_one

MINUS = (-1, 1)


def widened(chance, box, most=9):
    """A box that holds another one, sometimes with ends of it."""
    return as_box([
        (low - Fraction(chance.randint(0, most), 3), high + Fraction(chance.randint(0, most), 3))
        for low, high in sides(box)])


def with_told_errors(book, errors):
    """By the words of [30]: each rule twice, told being greater, and less, by the error of its cell."""
    return tuple(
        tuple((as_tuple(number(told) + sign * number(error)), factors) for told, factors in cell for sign in (1, -1))
        for cell, error in zip(book, errors))


class EndsInTest(unittest.TestCase):
    def test_ordinary(self):
        for bounds, told in [
                ((ZERO, ONE), True), ((MINUS, TWO), True), ((ZERO, TWO), True), ((MINUS, ONE), True),
                (((1, 10000), ONE), False), ((ZERO, (9999, 10000)), False), (((1, 3), (2, 3)), False),
                ((TWO, (3, 1)), False), ((HALF, TWO), False), ((MINUS, HALF), False)]:
            self.assertIs(ends_in((CELL,), (bounds,)), told, bounds)

    def test_one_side_of_one_cell(self):
        for chance, book in books_with_weights(30, 60):
            box = sides(box_of(book))
            self.assertIs(ends_in(book, as_box(box)), True)
            wide = sides(widened(chance, as_box(box)))
            self.assertIs(ends_in(book, as_box(wide)), True)
            at, side = chance.randrange(len(book)), chance.randrange(2)
            wide[at][side] = box[at][side] + Fraction(1 - 2 * side, 10 ** 9)
            if wide[at][0] <= wide[at][1]:
                self.assertIs(ends_in(book, as_box(wide)), False)


class ErrorBoxTest(unittest.TestCase):
    def test_ordinary(self):
        self.assertEqual(error_box((CELL,), (ZERO,)), ((ZERO, ONE),))
        self.assertEqual(error_box((CELL,), ((1, 4),)), (((-1, 2), (3, 2)),))
        self.assertEqual(error_box((CELL[:1],), (ONE,)), (((-2, 1), TWO),))
        self.assertEqual(error_box((((ONE, (ZERO,)),),), (HALF,)), ((HALF, (3, 2)),))

    def test_unlike_errors(self):
        book = (((ZERO, (ZERO, HALF)),), ((ONE, (ZERO, ZERO)),))
        self.assertEqual(error_box(book, (ZERO, ONE)), ((ZERO, ONE), (ZERO, TWO)))
        self.assertEqual(error_box(book, (ONE, ZERO)), (((-1, 2), (3, 2)), (ONE, ONE)))
        self.assertEqual(error_box(book, (ONE, HALF)), (((-3, 4), (7, 4)), (HALF, (3, 2))))

    def test_by_the_words(self):
        for chance, book in books_with_weights(301, 120):
            errors = tuple(as_tuple(Fraction(chance.randint(0, 9), chance.randint(1, 9))) for _ in book)
            box = error_box(book, errors)
            twice = with_told_errors(book, errors)
            self.assertEqual(next_of(twice, sides(box)), sides(box), book)
            self.assertEqual(box, as_box(sides(box)))
            self.assertEqual(box, box_of(with_errors(book, errors)))
            self.assertEqual(error_box(book, (ZERO,) * len(book)), box_of(book))
            alike = (errors[0],) * len(book)
            self.assertEqual(error_box(book, alike), box_of(with_told_errors(book, alike)))


class GreatestErrorTest(unittest.TestCase):
    def judged(self, book, bounds):
        error = greatest_error(book, bounds)
        self.assertEqual(error is None, not lies_in(box_of(book), bounds))
        if error is not None:
            self.assertEqual(error, as_tuple(number(error)))
            self.assertGreaterEqual(number(error), 0)
            box = error_box(book, (error,) * len(book))
            self.assertTrue(lies_in(box, bounds), (book, bounds))
            self.assertTrue(any(
                end == bound for of_cell, limits in zip(box, bounds) for end, bound in zip(of_cell, limits)))
            more = as_tuple(number(error) + Fraction(1, 10 ** 12))
            self.assertFalse(lies_in(error_box(book, (more,) * len(book)), bounds), (book, bounds))
        return error

    def test_ordinary(self):
        self.assertEqual(self.judged((CELL,), ((MINUS, TWO),)), HALF)
        self.assertEqual(self.judged((CELL,), ((MINUS, (9, 1)),)), HALF)
        self.assertEqual(self.judged((CELL,), (((-9, 1), TWO),)), HALF)
        self.assertEqual(self.judged((((ONE, (ZERO,)),),), ((MINUS, (5, 2)),)), (3, 2))

    def test_where_it_touches_it_is_0(self):
        for bounds in [(ZERO, ONE), (ZERO, TWO), (MINUS, ONE)]:
            self.assertEqual(self.judged((CELL,), (bounds,)), ZERO)
        point = (((ONE, (HALF, ZERO)),), ((ZERO, (ZERO, ZERO)),))
        self.assertEqual(self.judged(point, ((TWO, TWO), (MINUS, ONE))), ZERO)
        self.assertEqual(self.judged(point, ((ZERO, (4, 1)), (ZERO, ZERO))), ZERO)

    def test_none(self):
        for bounds in [((1, 10000), ONE), (ZERO, (9999, 10000)), (TWO, TWO), (MINUS, ZERO)]:
            self.assertIsNone(self.judged((CELL,), (bounds,)))

    def test_other_rules_count_where_it_is_greater(self):
        """With no error the first rule gives the high, with great ones the second."""
        book = (((ONE, (ZERO, ZERO)), (ZERO, (ZERO, (3, 1)))), ((ZERO, (ZERO, ZERO)),))
        self.assertEqual(error_box(book, (ZERO, ZERO))[0], (ZERO, ONE))
        self.assertEqual(self.judged(book, (((-9, 1), (9, 1)), ((-9, 1), (9, 1)))), (9, 4))
        self.assertEqual(self.judged(book, (((-99, 1), (5, 4)), ((-9, 1), (9, 1)))), (1, 4))
        self.assertEqual(self.judged(book, (((-99, 1), (9, 1)), ((-9, 1), TWO))), TWO)

    def test_by_the_words(self):
        seen = []
        for chance, book in books_with_weights(302, 150):
            box = box_of(book)
            error = self.judged(book, widened(chance, box))
            seen.append(error == ZERO)
            at = chance.randrange(len(book))
            less = box[:at] + ((as_tuple(number(box[at][0]) + Fraction(1, 99)), (10 ** 9, 1)),) + box[at + 1:]
            self.assertIsNone(self.judged(book, less))
            self.assertEqual(self.judged(book, box), ZERO)
        self.assertGreater(min(seen.count(True), seen.count(False)), 15)

    def test_at_the_bounds(self):
        for seed in range(6):
            chance = random.Random(seed)
            for top in (Fraction(1, 7), Fraction(1, 5)):
                book = great_book(chance, top)
                if weights_of(book) is not None:
                    self.judged(book, widened(chance, box_of(book), 10 ** 6))
        self.judged(near_one(random.Random(7), 6), (((-10 ** 9, 1), (10 ** 9, 1)),) * 6)

    def test_heavy(self):
        asks = [lambda book, box: ends_in(book, box), lambda book, box: greatest_error(book, box),
                lambda book, box: error_box(book, (ONE,) * len(book))]
        books = [HEAVY] + [book for _, book, _ in heavy_books(303, 30)]
        for ask in asks:
            for book in books:
                with self.assertRaises(Heavy) as caught:
                    ask(book, ((ZERO, ZERO),) * len(book))
                self.assertIs(is_heavy_lot(book, caught.exception.found), True)
