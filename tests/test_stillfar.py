"""[35]: how far still."""

import random
import unittest
from fractions import Fraction

from onelate.boxes import box_of
from onelate.errors import Heavy
from onelate.heavylots import is_heavy_lot
from onelate.stillfar import left_behind, still_box, still_far
from tests.judge import (
    HALF, ONE, TWO, ZERO, as_box, as_tuple, books_with_weights, gone, great_book, heavy_books, make_fraction, make_row,
    make_start, next_of, number, numbers, sides, some_books, with_told)
from tests.test_boxes import CELL, HEAVY

BOOK, MINUS = (CELL,), (-1, 1)


class LeftBehindTest(unittest.TestCase):
    def test_ordinary(self):
        turn = (((ONE, (MINUS,)),),)
        start, row = ((ZERO, ONE),), ((0, 0, (0,)), (0, 0, (2,)), (0, 0, (0,)))
        self.assertEqual(left_behind(turn, start, row, 0), ((ONE,),))
        self.assertEqual(left_behind(turn, start, row, 1), ((ONE, ZERO),))
        self.assertEqual(left_behind(turn, start, row, 3), ((ONE, ZERO, ONE, ZERO),))

    def test_fewer_than_asked_for(self):
        book = (((ONE, (HALF, ZERO)),), ((TWO, (ZERO, ZERO)),))
        start, row = ((ZERO, ONE), (HALF, MINUS)), ((0, 0, (1, 0)), (0, 0, (0, 0)))
        told = ((((7, 4), (3, 2), ZERO, ONE)), (HALF, MINUS))
        for age in (3, 4, 60):
            self.assertEqual(left_behind(book, start, row, age), told)
        self.assertEqual(left_behind(book, start, row, 2), (told[0][:3], told[1]))
        self.assertEqual(left_behind(book, start, row, 1), (told[0][:2], told[1]))
        self.assertEqual(left_behind(book, start, row, 0), (told[0][:1], told[1][:1]))

    def test_no_turns(self):
        start = ((ZERO, ONE),)
        self.assertEqual(left_behind(BOOK, start, (), 0), ((ZERO,),))
        self.assertEqual(left_behind(BOOK, start, (), 1), ((ZERO, ONE),))
        self.assertEqual(left_behind(BOOK, start, (), 9), ((ZERO, ONE),))

    def test_by_the_words(self):
        for chance, book in some_books(35, 60):
            start = make_start(chance, book)
            row = make_row(chance, book, chance.randint(0, 20), 5)
            age = chance.choice((0, 1, 2, 7, 60))
            _, values, _ = gone(book, start, row)
            self.assertEqual(
                left_behind(book, start, row, age), tuple(tuple(of_cell[::-1][:age + 1]) for of_cell in values))


class StillBoxTest(unittest.TestCase):
    def judged(self, book, left):
        box = still_box(book, left)
        self.assertEqual(box, as_box(sides(box)))
        more = with_told(book, left)
        self.assertEqual(next_of(more, sides(box)), sides(box), (book, left))
        self.assertEqual(box, box_of(more))
        goal = tuple(as_tuple(Fraction(at * 7 - 9, 4)) for at in range(len(book)))
        far = [max(abs(number(aim) - low), abs(number(aim) - high)) for aim, (low, high) in zip(goal, sides(box))]
        self.assertEqual(still_far(book, left, goal), tuple(as_tuple(one) for one in far))
        return box

    def test_ordinary(self):
        self.assertEqual(self.judged(BOOK, ((ONE, ZERO),)), ((ZERO, ONE),))
        self.assertEqual(self.judged(BOOK, ((HALF,),)), ((ZERO, ONE),))
        self.assertEqual(self.judged(BOOK, ((ONE, (3, 1), ZERO, TWO),)), (((-1, 2), (3, 1)),))
        self.assertEqual(self.judged(BOOK, (((-4, 1), (-3, 1)),)), (((-4, 1), (3, 1)),))

    def test_values_of_unlike_many(self):
        book = (((ZERO, (ZERO, ONE)),), ((ONE, (ZERO, ZERO)),))
        self.assertEqual(self.judged(book, ((ZERO,), (ONE, (5, 1), HALF))), ((ZERO, (5, 1)), (HALF, (5, 1))))
        self.assertEqual(self.judged(book, ((ZERO, (9, 1)), (ONE,))), ((ZERO, (9, 1)), (ONE, ONE)))

    def test_the_least_box(self):
        """Any box that holds the left values and its next box holds it."""
        for chance, book in books_with_weights(351, 80, 4):
            left = tuple(
                tuple(make_fraction(chance, 9, 4) for _ in range(chance.randint(1, 4))) for _ in book)
            box = sides(self.judged(book, left))
            wide = [[low, high] for low, high in box]
            at = chance.randrange(len(book))
            wide[at][chance.randrange(2)] += chance.choice((-1, 1)) * Fraction(1, 7)
            holds = all(
                min(numbers(values)) >= low and max(numbers(values)) <= high for values, (low, high) in zip(left, wide))
            inner = [[min(low, one), max(high, other)] for (low, high), (one, other) in zip(wide, next_of(book, wide))]
            if holds and inner == wide:
                self.assertTrue(all(one <= low and high <= other for (low, high), (one, other) in zip(box, wide)))

    def test_nothing_that_still_comes_is_outside(self):
        for chance, book in books_with_weights(352, 40, 3):
            start, row = make_start(chance, book), make_row(chance, book, 12, 4)
            box = sides(still_box(book, left_behind(book, start, row, 2)))
            more = make_row(chance, book, 30, 0)
            _, values, _ = gone(book, start, row + more)
            _, before, _ = gone(book, start, row)
            for (low, high), there, behind in zip(box, values, before):
                self.assertTrue(all(low <= number(value) <= high for value in there[len(behind):]))

    def test_at_the_bounds(self):
        for seed in range(3):
            chance = random.Random(seed)
            book = great_book(chance, Fraction(1, 7))
            left = tuple(tuple(make_fraction(chance, 10 ** 6, 10 ** 4) for _ in range(61)) for _ in book)
            self.judged(book, left)

    def test_far(self):
        self.assertEqual(still_far(BOOK, ((ONE,),), ((2, 3),)), ((2, 3),))
        self.assertEqual(still_far((((ONE, ((-1, 2),)),),), ((ONE,),), ((2, 3),)), ((1, 3),))
        self.assertEqual(still_far(BOOK, ((ONE,),), ((1, 3),)), ((2, 3),))
        self.assertEqual(still_far(BOOK, ((ONE,),), (TWO,)), (TWO,))
        self.assertEqual(still_far(BOOK, ((ONE,),), (MINUS,)), (TWO,))
        self.assertEqual(still_far((((ONE, (ZERO,)),),), ((ONE,),), (ONE,)), (ZERO,))

    def test_heavy(self):
        books = [HEAVY] + [book for _, book, _ in heavy_books(353, 30)]
        for book in books:
            left, goal = ((ONE, ZERO),) * len(book), (ZERO,) * len(book)
            for ask in (lambda: still_box(book, left), lambda: still_far(book, left, goal)):
                with self.assertRaises(Heavy) as caught:
                    ask()
                self.assertIs(is_heavy_lot(book, caught.exception.found), True)
            self.assertEqual(len(left_behind(book, left, (), 0)), len(book))
