"""[32]: rows to the ends."""

import random
import unittest
from fractions import Fraction

from onelate.errors import Heavy, TooMany
from onelate.ever import ever_box
from onelate.forms import is_aged_row
from onelate.heavylots import is_heavy_lot
from onelate.leaving import leaving_row, near_row
from tests.judge import (
    HALF, ONE, TWO, ZERO, as_box, as_tuple, books_with_weights, end_in, gone, great_book, heavy_books, make_start,
    number, numbers, sides)
from tests.test_boxes import CELL, HEAVY
from tests.test_ever import OTHER, START, can_be_done

BOOK = (CELL,)
ROW = ((0, 1, (0,)), (0, 0, (1,)), (0, 1, (0,)), (0, 0, (1,)), (0, 1, (0,)))


def ever_turns(book, start):
    """The ever rounds by the words of [32], without end: for each turn its aged turn, its side and its value."""
    box = sides(ever_box(book, start))
    values = [[number(ahead), number(newest)] for newest, ahead in start]
    made = {}
    while True:
        for cell, rules in enumerate(book):
            for side in (1, 0):
                if box[cell][side] in values[cell][:2]:
                    continue
                rule = min(at for at, one in enumerate(rules) if end_in(one, box, side) == box[cell][side])
                ages = []
                for other, factor in enumerate(numbers(rules[rule][1])):
                    read = side if factor > 0 else 1 - side
                    if factor == 0:
                        ages.append(0)
                        continue
                    there = values[other]
                    if box[other][read] in there[:2]:
                        place = 1 if there[1] == box[other][read] else 0
                    else:
                        place = made.get((other, read), 1)
                    ages.append(len(there) - 1 - place)
                value = number(rules[rule][0]) + sum(
                    number(factor) * values[other][-1 - ages[other]] for other, factor in enumerate(rules[rule][1]))
                made[(cell, side)] = len(values[cell])
                values[cell].append(value)
                yield (cell, rule, tuple(ages)), (cell, side), value


def up_to(book, start, cell, side, is_far_enough):
    """The ever rounds up to the first such value, "too many" if 60 rounds have none."""
    row = []
    many = 0
    for turn, end, value in ever_turns(book, start):
        if end == (cell, side):
            many += 1
            if many > 60:
                return "too many"
        row.append(turn)
        if end == (cell, side) and is_far_enough(value):
            return tuple(row)
    return None


def near_of(book, start, cell, side, nearness):
    end = number(ever_box(book, start)[cell][side])
    near = lambda value: abs(end - value) <= number(nearness)
    return () if any(near(number(value)) for value in start[cell]) else up_to(book, start, cell, side, near)


def leaving_of(book, start, bounds):
    beyond = [lambda value, bound: value < bound, lambda value, bound: value > bound]
    box = sides(ever_box(book, start))
    for cell, bound in enumerate(sides(bounds)):
        for side in (0, 1):
            if beyond[side](box[cell][side], bound[side]):
                is_out = lambda value: beyond[side](value, bound[side])
                if any(is_out(number(value)) for value in start[cell]):
                    return ()
                return up_to(book, start, cell, side, is_out)
    return None


def told(ask, *given):
    try:
        return ask(*given)
    except TooMany as error:
        assert error.most == 60
        return "too many"


class NearRowTest(unittest.TestCase):
    def judged(self, book, start, cell, side, nearness):
        row = told(near_row, book, start, cell, side, nearness)
        self.assertEqual(row, near_of(book, start, cell, side, nearness), (book, start, cell, side, nearness))
        if row not in ((), "too many"):
            self.assertTrue(is_aged_row(book, row) and can_be_done(book, row))
            _, values, _ = gone(book, start, row)
            end = number(ever_box(book, start)[cell][side])
            self.assertLessEqual(abs(end - number(values[cell][-1])), number(nearness))
        return row

    def test_ordinary(self):
        self.assertEqual(self.judged(BOOK, START, 0, 1, (1, 10)), ROW)
        self.assertEqual(self.judged(BOOK, START, 0, 0, (1, 10)), ROW + ((0, 0, (1,)),))
        self.assertEqual(self.judged(BOOK, START, 0, 1, (1, 16)), ROW)
        self.assertEqual(self.judged(BOOK, START, 0, 1, (1, 8)), ROW[:3])
        self.assertEqual(self.judged(BOOK, START, 0, 1, (1, 4)), ROW[:1])

    def test_a_value_of_the_start(self):
        self.assertEqual(self.judged(BOOK, START, 0, 0, HALF), ())
        self.assertEqual(self.judged(BOOK, START, 0, 1, HALF), ())
        self.assertNotEqual(self.judged(BOOK, START, 0, 1, (49, 100)), ())
        self.assertEqual(self.judged(BOOK, OTHER, 0, 1, (1, 10 ** 4)), ())
        self.assertEqual(self.judged(BOOK, ((HALF, (1, 10)),), 0, 0, (1, 10)), ())
        self.assertEqual(self.judged(BOOK, (((1, 10), HALF),), 0, 0, (1, 10)), ())

    def test_an_end_of_the_start_has_no_turns(self):
        """The high is the ahead value of the start; so only the low has turns, and they read this value."""
        self.assertEqual(self.judged(BOOK, OTHER, 0, 0, (1, 10 ** 4)), ((0, 1, (1,)),))
        self.assertEqual(self.judged(BOOK, (((3, 1), (3, 1)),), 0, 0, (1, 10 ** 4)), ((0, 1, (0,)),))
        book = (((ZERO, (HALF, ZERO)), (ONE, ((-1, 2), ZERO))), ((ZERO, (HALF, HALF)),))
        start = ((ZERO, (3, 1)), (ZERO, ZERO))
        row = self.judged(book, start, 1, 1, (1, 2))
        self.assertEqual(row[:4], ((0, 1, (1, 0)), (1, 0, (2, 0)), (1, 0, (0, 1)), (0, 1, (2, 0))))
        self.assertEqual(row[4:7], ((1, 0, (3, 1)), (1, 0, (0, 1)), (0, 1, (3, 0))))

    def test_both_values_are_the_end(self):
        start = ((ZERO, ZERO), (ONE, ONE))
        book = (((ZERO, (HALF, ZERO)), (TWO, (ZERO, ZERO))), ((HALF, (HALF, ZERO)), (ZERO, (ZERO, HALF))))
        for cell in (0, 1):
            for side in (0, 1):
                self.judged(book, start, cell, side, (1, 100))

    def test_sixty_rounds(self):
        for num in (58, 59, 60):
            row = self.judged(BOOK, START, 0, 1, (1, 2 ** (num + 1)))
            self.assertEqual(len(row), 2 * num - 1)
        with self.assertRaises(TooMany) as caught:
            near_row(BOOK, START, 0, 1, (1, 2 ** 62))
        self.assertEqual(caught.exception.most, 60)
        slow = (((ZERO, ((9999, 10000),)), (ONE, ((9999, 10000),))),)
        self.assertEqual(self.judged(slow, ((ONE, ONE),), 0, 1, ONE), "too many")
        last = Fraction(10 ** 4 - 1) * Fraction(9999, 10000) ** 60
        self.assertEqual(len(self.judged(slow, ((ONE, ONE),), 0, 1, as_tuple(last))), 119)
        self.assertEqual(self.judged(slow, ((ONE, ONE),), 0, 1, as_tuple(last - Fraction(1, 10 ** 9))), "too many")

    def test_turn_by_turn(self):
        lengths = []
        for chance, book in books_with_weights(32, 120):
            start = make_start(chance, book)
            if chance.random() < 0.4:
                start = tuple((as_tuple(number(one) * 3), other) for one, other in start)
            nearness = (1, chance.choice((1, 7, 40)))
            for _ in range(3):
                row = self.judged(book, start, chance.randrange(len(book)), chance.randrange(2), nearness)
                lengths.append(len(row))
        self.assertGreater(lengths.count(0), 10)
        self.assertGreater(len([many for many in lengths if many > 12]), 15)

    def test_starts_of_ends(self):
        """Some ends, not all, are values of the start, newest, ahead or both."""
        for chance, book in books_with_weights(321, 120, 4):
            box = ever_box(book, make_start(chance, book))
            start = tuple(
                chance.choice(((low, high), (high, low), (low, low), (as_tuple((number(low) + number(high)) / 2), high),
                               (low, as_tuple((number(low) + number(high)) / 2))))
                for low, high in box)
            for cell in range(len(book)):
                self.judged(book, start, cell, chance.randrange(2), (1, 20))

    def test_at_the_bounds(self):
        for seed in range(3):
            chance = random.Random(seed)
            book = great_book(chance, Fraction(1, 7))
            start = make_start(chance, book)
            self.judged(book, start, 3, 1, ONE)
            row = told(near_row, book, start, 5, 0, (1, 10 ** 20))
            self.assertTrue(row == "too many" or can_be_done(book, row))
            self.assertEqual(told(near_row, book, start, 5, 0, (1, 10 ** 900)), "too many")


class LeavingRowTest(unittest.TestCase):
    def judged(self, book, start, bounds):
        row = told(leaving_row, book, start, bounds)
        self.assertEqual(row, leaving_of(book, start, bounds), (book, start, bounds))
        if row not in (None, (), "too many"):
            self.assertTrue(is_aged_row(book, row) and can_be_done(book, row))
            _, values, _ = gone(book, start, row)
            cell = row[-1][0]
            low, high = sides(bounds)[cell]
            self.assertFalse(low <= number(values[cell][-1]) <= high)
            self.assertTrue(all(low <= number(value) for value in values[cell][:-1])
                            or all(number(value) <= high for value in values[cell][:-1]))
        return row

    def test_ordinary(self):
        self.assertEqual(self.judged(BOOK, START, ((ZERO, (9, 10)),)), ROW)
        self.assertIsNone(self.judged(BOOK, START, ((ZERO, ONE),)))
        self.assertIsNone(self.judged(BOOK, START, (((-1, 1), TWO),)))
        self.assertEqual(self.judged(BOOK, OTHER, ((ZERO, (3, 1)),)), ((0, 1, (1,)),))
        self.assertEqual(self.judged(BOOK, OTHER, (((-1, 1), TWO),)), ())
        self.assertEqual(self.judged(BOOK, START, ((TWO, TWO),)), ())
        self.assertEqual(self.judged(BOOK, START, ((ZERO, (1, 3)),)), ())

    def test_beyond_is_not_at(self):
        """The values for the high are 1/2, 3/4, 7/8 ..; one that is the bound is not beyond it."""
        self.assertEqual(self.judged(BOOK, START, ((ZERO, (7, 8)),)), ROW)
        self.assertEqual(self.judged(BOOK, START, ((ZERO, (3, 4)),)), ROW[:3])
        self.assertEqual(self.judged(BOOK, START, ((ZERO, (37, 50)),)), ROW[:1])
        self.assertEqual(self.judged(BOOK, START, ((ZERO, HALF),)), ROW[:1])

    def test_the_least_cell_and_side(self):
        """The low of a cell ahead of its high; the cell 0 ahead of the cell 1."""
        self.assertEqual(self.judged(BOOK, START, (((1, 10), (9, 10)),))[-1], (0, 0, (1,)))
        two = (((ZERO, (HALF, ZERO)), (ONE, (ZERO, ZERO))), ((ZERO, (ZERO, HALF)), (ONE, (ZERO, ZERO))))
        start = ((HALF, HALF), ((1, 3), TWO))
        bounds = ((ZERO, ONE), ((1, 10), ONE))
        self.assertEqual(self.judged(two, start, bounds)[-1][0], 1)
        self.assertEqual(self.judged(two, start, (((1, 10), ONE),) + bounds[1:])[-1][0], 0)
        self.assertEqual(self.judged(two, start, (bounds[0], (ZERO, ONE))), ())

    def test_sixty_rounds(self):
        slow = (((ZERO, ((9999, 10000),)), (ONE, ((9999, 10000),))),)
        start = ((ONE, ONE),)
        end = Fraction(10 ** 4)
        gone_by = Fraction(10 ** 4 - 1) * Fraction(9999, 10000) ** 60
        self.assertEqual(self.judged(slow, start, ((ZERO, as_tuple(end - gone_by)),)), "too many")
        less = as_tuple(end - gone_by - Fraction(1, 10 ** 30))
        self.assertEqual(len(self.judged(slow, start, ((ZERO, less),))), 119)

    def test_by_the_words(self):
        kinds = []
        for chance, book in books_with_weights(322, 150):
            start = make_start(chance, book)
            box = sides(ever_box(book, start))
            bounds = []
            shares = chance.choice(((0,), (0, 0, 0, 0, 1, 3)))
            for low, high in box:
                by, other = [Fraction(chance.choice(shares), 40) for _ in range(2)]
                bounds.append((low + by * (high - low), high - other * (high - low)))
            row = self.judged(book, start, as_box(bounds))
            kinds.append(row if row in (None, (), "too many") else "row")
        for kind in (None, (), "row"):
            self.assertGreater(kinds.count(kind), 5, kind)

    def test_heavy(self):
        books = [HEAVY] + [book for _, book, _ in heavy_books(323, 30)]
        for book in books:
            start = ((ZERO, ONE),) * len(book)
            for ask in (lambda: near_row(book, start, 0, 1, ONE), lambda: leaving_row(book, start, start)):
                with self.assertRaises(Heavy) as caught:
                    ask()
                self.assertIs(is_heavy_lot(book, caught.exception.found), True)
