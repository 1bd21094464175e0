"""[31]: ever boxes."""

import random
import unittest
from fractions import Fraction

from onelate.boxes import box_of, next_box
from onelate.errors import Heavy
from onelate.ever import come_to, ever_box, is_ever_box
from onelate.forms import is_aged_row
from onelate.heavylots import is_heavy_lot
from tests.judge import (
    HALF, ONE, TWO, ZERO, as_box, as_tuple, books_with_weights, end_in, gone, great_book, heavy_books, make_row,
    make_start, next_of, number, odd_values, sides, spoiled, with_told)
from tests.test_boxes import CELL, HEAVY

BOOK, START, OTHER = (CELL,), ((HALF, HALF),), ((ZERO, (3, 1)),)


def can_be_done(book, row):
    many = [2] * len(book)
    for cell, _, ages in row:
        if any(age >= there for age, there in zip(ages, many)):
            return False
        many[cell] += 1
    return True


def ends_come_to(book, start):
    """The (cell, side) of all ends that are come to, by the words of [31], by going on until none is new."""
    box = sides(ever_box(book, start))
    known = {(cell, side) for cell, ends in enumerate(box) for side in (0, 1)
             if ends[side] in [number(value) for value in start[cell]]}
    while True:
        more = set(known)
        for cell, rules in enumerate(book):
            for side in (0, 1):
                for rule in rules:
                    read = {(other, side if factor[0] > 0 else 1 - side)
                            for other, factor in enumerate(rule[1]) if factor != ZERO}
                    if end_in(rule, box, side) == box[cell][side] and read <= known:
                        more.add((cell, side))
        if more == known:
            return known
        known = more


class EverBoxTest(unittest.TestCase):
    def judged(self, book, start):
        box = ever_box(book, start)
        more = with_told(book, start)
        self.assertEqual(box, as_box(sides(box)))
        self.assertEqual(next_of(more, sides(box)), sides(box), (book, start))
        self.assertEqual(box, box_of(more))
        self.assertIs(is_ever_box(book, start, box), True)
        return box

    def test_ordinary(self):
        self.assertEqual(self.judged(BOOK, START), ((ZERO, ONE),))
        self.assertEqual(self.judged(BOOK, OTHER), (((-1, 2), (3, 1)),))
        self.assertEqual(self.judged(BOOK, (((3, 1), ZERO),)), (((-1, 2), (3, 1)),))
        self.assertEqual(self.judged((((ONE, (ZERO,)),),), ((TWO, (4, 1)),)), ((ONE, (4, 1)),))

    def test_starts_in_the_own_box(self):
        for start in [((ZERO, ONE),), ((ZERO, ZERO),), ((ONE, ONE),), (((1, 3), (2, 3)),)]:
            self.assertEqual(self.judged(BOOK, start), box_of(BOOK))
        for chance, book in books_with_weights(31, 60):
            box = box_of(book)
            self.assertEqual(self.judged(book, box), box)
            self.assertEqual(self.judged(book, tuple((high, low) for low, high in box)), box)

    def test_by_the_words(self):
        for chance, book in books_with_weights(311, 120):
            start = make_start(chance, book)
            box = sides(self.judged(book, start))
            for (low, high), (one, other) in zip(sides(box_of(book)), box):
                self.assertTrue(one <= low and high <= other)

    def test_no_aged_row_leads_out(self):
        for chance, book in books_with_weights(312, 40, 3):
            start = make_start(chance, book)
            _, values, _ = gone(book, start, make_row(chance, book, 60, 9))
            for (low, high), of_cell in zip(sides(ever_box(book, start)), values):
                self.assertTrue(all(low <= number(value) <= high for value in of_cell))

    def test_is_ever_box_of_others(self):
        for book, start, box in [(BOOK, OTHER, (((-1, 2), (3, 1)),)), (BOOK, START, ((ZERO, ONE),))]:
            (low, high), = box
            for thing in [((low, TWO),), ((ZERO, (4, 1)),), ((as_tuple(number(low) - 1), high),), (), [(low, high)],
                          ([low, high],), ((high, low),), box * 2, (box,), ((low, high, high),), None]:
                self.assertIs(is_ever_box(book, start, thing), False, thing)
        self.assertIs(is_ever_box(BOOK, OTHER, box_of(BOOK)), False)
        self.assertIs(is_ever_box(BOOK, OTHER, next_box(BOOK, ever_box(BOOK, OTHER))), False)
        self.assertIs(is_ever_box(BOOK, START, (((False, 1), ONE),)), False)
        self.assertIs(is_ever_box(BOOK, START, ((ZERO, (True, True)),)), False)
        self.assertIs(is_ever_box(BOOK, START, ((ZERO, (1, True)),)), False)

    def test_is_ever_box_of_any_values(self):
        for thing in odd_values():
            self.assertIs(is_ever_box(BOOK, START, thing), False, thing)
        for thing in spoiled(((ZERO, ONE),)):
            self.assertIs(is_ever_box(BOOK, START, thing), False, thing)

    def test_heavy(self):
        books = [HEAVY] + [book for _, book, _ in heavy_books(313, 30)]
        for book in books:
            start = ((ZERO, ONE),) * len(book)
            for ask in (lambda: ever_box(book, start), lambda: is_ever_box(book, start, None),
                        lambda: is_ever_box(book, start, start), lambda: come_to(book, start, 0, 1)):
                with self.assertRaises(Heavy) as caught:
                    ask()
                self.assertIs(is_heavy_lot(book, caught.exception.found), True)


class ComeToTest(unittest.TestCase):
    def judged(self, book, start):
        """The ends that are come to; each row is gone."""
        known = ends_come_to(book, start)
        box = ever_box(book, start)
        for cell in range(len(book)):
            for side in (0, 1):
                row = come_to(book, start, cell, side)
                self.assertEqual(row is not None, (cell, side) in known, (book, start, cell, side))
                if row is not None:
                    self.assertTrue(is_aged_row(book, row) and can_be_done(book, row))
                    _, values, _ = gone(book, start, row)
                    self.assertIn(box[cell][side], values[cell])
                    self.assertEqual(row == (), box[cell][side] in start[cell])
                    self.assertTrue(row == () or values[cell][-1] == box[cell][side])
        return known

    def test_ordinary(self):
        self.assertIsNone(come_to(BOOK, START, 0, 1))
        self.assertIsNone(come_to(BOOK, START, 0, 0))
        self.assertEqual(come_to(BOOK, OTHER, 0, 0), ((0, 1, (1,)),))
        self.assertEqual(come_to(BOOK, OTHER, 0, 1), ())
        self.assertEqual(come_to(BOOK, (((3, 1), ZERO),), 0, 0), ((0, 1, (0,)),))
        self.assertEqual(come_to(BOOK, (((3, 1), ZERO),), 0, 1), ())
        self.judged(BOOK, OTHER)

    def test_rules_that_read_nothing(self):
        book = (((ONE, (ZERO, ZERO)), (TWO, (ZERO, ZERO))), ((ZERO, (ONE, ZERO)),))
        start = ((HALF, HALF), ((3, 1), (3, 1)))
        self.assertEqual(self.judged(book, start), {(0, 0), (0, 1), (1, 0), (1, 1)})
        self.assertEqual(come_to(book, start, 0, 1), ((0, 1, (0, 0)),))
        self.assertEqual(come_to(book, start, 0, 0), ())
        self.assertEqual(come_to(book, start, 1, 1), ())
        self.assertEqual(come_to(book, start, 1, 0), ((1, 0, (0, 0)),))
        self.assertEqual(come_to(book, ((HALF, HALF), (HALF, ONE)), 1, 1), ((0, 1, (0, 0)), (1, 0, (0, 0))))

    def test_several_turns(self):
        """Each cell by the end of the next one, the other way about."""
        turned = (-1, 1)
        book = (
            ((ZERO, (ZERO, turned, ZERO)),), ((ZERO, (ZERO, ZERO, turned)),),
            ((ONE, (ZERO,) * 3), ((-5, 1), (ZERO,) * 3)))
        start = ((ZERO, ZERO),) * 3
        self.assertEqual(len(self.judged(book, start)), 6)
        self.assertEqual(come_to(book, start, 0, 0), ((2, 1, (0, 0, 0)), (1, 0, (0, 0, 0)), (0, 0, (0, 0, 0))))

    def test_reads_of_both_ends_of_one_cell(self):
        book = (((ZERO, (ZERO, ONE, (-1, 1))),), ((ZERO, (ZERO, ZERO, ONE)),), ((ONE, (ZERO,) * 3), (TWO, (ZERO,) * 3)))
        start = ((ZERO, ZERO), (ONE, ONE), (ONE, ONE))
        self.assertEqual(len(self.judged(book, start)), 6)
        both = (((ZERO, (HALF, ZERO)), (ONE, ((-1, 2), ZERO))), ((ZERO, (ONE, ZERO)), (ZERO, ((-1, 1), ZERO))))
        self.judged(both, (((3, 1), ZERO), (ZERO, ZERO)))

    def test_an_order_that_goes_round(self):
        """The ends of both cells are the greatest by each other: neared, as long as the start has none of them."""
        ring = (((ONE, (ZERO, HALF)),), ((ONE, (HALF, ZERO)),))
        self.assertEqual(self.judged(ring, ((ZERO, ZERO), (ZERO, ZERO))), {(0, 0), (1, 0)})
        self.assertEqual(self.judged(ring, ((TWO, ZERO), (ZERO, ZERO))), {(0, 0), (1, 0), (0, 1), (1, 1)})
        self.assertEqual(come_to(ring, ((TWO, ZERO), (ZERO, ZERO)), 1, 1), ((1, 0, (0, 0)),))
        self.assertEqual(come_to(ring, ((ZERO, TWO), (ZERO, ZERO)), 1, 1), ((1, 0, (1, 0)),))

    def test_another_rule_with_the_same_end(self):
        """The first rule gives the high only by the high itself, the second one by what is there."""
        book = (((ONE, (HALF, ZERO)), (TWO, (ZERO, ZERO))), ((ZERO, (ZERO, ZERO)),))
        self.assertEqual(self.judged(book, ((ZERO, ZERO),) * 2), {(0, 0), (0, 1), (1, 0), (1, 1)})
        self.assertEqual(come_to(book, ((ZERO, ZERO),) * 2, 0, 1), ((0, 1, (0, 0)),))

    def test_by_the_words(self):
        seen = [0, 0]
        for chance, book in books_with_weights(314, 200, 5):
            start = make_start(chance, book)
            if chance.random() < 0.5:
                start = tuple((as_tuple(2 * number(one)), (0, 1)) for one, _ in start)
            known = self.judged(book, start)
            seen[0] += len(known)
            seen[1] += 2 * len(book) - len(known)
        self.assertGreater(min(seen), 50)

    def test_what_is_neared_is_not_come_to(self):
        """By going through short aged rows: no end is come to that is only neared."""
        chance = random.Random(315)
        for _, book in books_with_weights(315, 25, 2):
            start = make_start(chance, book)
            box, known = ever_box(book, start), ends_come_to(book, start)
            for _ in range(40):
                _, values, _ = gone(book, start, make_row(chance, book, 6, 7))
                for cell, ends in enumerate(box):
                    for side in (0, 1):
                        self.assertTrue(ends[side] not in values[cell] or (cell, side) in known)

    def test_at_the_bounds(self):
        for seed in range(4):
            chance = random.Random(seed)
            book = great_book(chance, Fraction(1, 7))
            self.judged(book, make_start(chance, book))
            wide = tuple(((10 ** 6, 1), (-10 ** 6, 1)) for _ in book)
            self.assertGreater(len(self.judged(book, wide)), 0)
