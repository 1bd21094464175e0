"""[28], and [6]: boxes."""

import random
import unittest
from fractions import Fraction

from onelate.boxes import box_of, end_of, high_by, is_own_box, lies_in, low_by, next_box
from onelate.errors import Heavy
from onelate.forms import is_box
from onelate.heavylots import is_heavy_lot
from onelate.weights import weights_of
from tests.judge import (
    HALF, ONE, TWO, ZERO, as_box, as_tuple, books_with_weights, end_in, gone, great_book, heavy_books, make_book,
    make_fraction, make_row, make_start, next_of, number, odd_values, sides, some_books, spoiled, value_of)

MINUS, THREE = (-1, 1), (3, 1)
CELL = ((ZERO, (HALF,)), (ONE, ((-1, 2),)))
HEAVY = (((ONE, (ONE, ZERO)),), ((ZERO, (ZERO, HALF)),))


def make_box(chance, many, most=9):
    pairs = [sorted(number(make_fraction(chance, most, 5)) for _ in range(2)) for _ in range(many)]
    return as_box([pair if chance.random() < 0.8 else pair[:1] * 2 for pair in pairs])


def near_one(chance, many):
    """A book of one ring whose rate is just below 1."""
    factors = [chance.choice((ONE, MINUS)) for _ in range(many - 1)] + [chance.choice(((9999, 10000), (-9999, 10000)))]
    return tuple(
        tuple((make_fraction(chance, 99, 9), tuple(
            factor if other == (at + 1) % many else ZERO for other in range(many))) for _ in range(3))
        for at, factor in enumerate(factors))


class SidesTest(unittest.TestCase):
    def test_factors_above_and_below_0(self):
        box = ((MINUS, THREE), (HALF, TWO))
        for rule, low, high in [
                ((ONE, (ZERO, ZERO)), ONE, ONE), ((ONE, (TWO, ZERO)), MINUS, (7, 1)),
                ((ONE, ((-2, 1), ZERO)), (-5, 1), THREE), ((ZERO, (ONE, ONE)), (-1, 2), (5, 1)),
                ((ZERO, (ONE, MINUS)), (-3, 1), (5, 2)), ((HALF, (MINUS, (-1, 3))), (-19, 6), (4, 3))]:
            self.assertEqual((low_by(rule, box), high_by(rule, box)), (low, high), rule)

    def test_points(self):
        for rule in [(ONE, (TWO, (-3, 4))), (ZERO, (ZERO, ONE)), ((-2, 3), (ZERO, ZERO))]:
            point = ((HALF, HALF), (THREE, THREE))
            value = as_tuple(value_of(rule, [Fraction(1, 2), 3]))
            self.assertEqual((low_by(rule, point), high_by(rule, point)), (value, value))

    def test_by_the_words(self):
        chance = random.Random(28)
        for _ in range(200):
            many = chance.randint(1, 6)
            rule = make_book(chance, many, 1, lambda: make_fraction(chance, 5, 5))[0][0]
            box = make_box(chance, many)
            self.assertEqual(number(low_by(rule, box)), end_in(rule, sides(box), 0))
            self.assertEqual(number(high_by(rule, box)), end_in(rule, sides(box), 1))
            inner = [low + (high - low) * Fraction(chance.randint(0, 4), 4) for low, high in sides(box)]
            self.assertTrue(
                number(low_by(rule, box)) <= value_of(rule, inner) <= number(high_by(rule, box)))


class NextBoxTest(unittest.TestCase):
    def test_ordinary(self):
        self.assertEqual(next_box((CELL,), ((MINUS, TWO),)), (((-1, 2), (3, 2)),))
        self.assertEqual(next_box((CELL,), ((ONE, ONE),)), ((HALF, HALF),))
        self.assertEqual(next_box((CELL,), ((ZERO, ZERO),)), ((ZERO, ONE),))
        self.assertEqual(next_box(HEAVY, ((ZERO, ONE), (MINUS, TWO))), ((ONE, TWO), ((-1, 2), ONE)))

    def test_by_the_words(self):
        for chance, book in some_books(281, 120):
            box = make_box(chance, len(book))
            told = next_box(book, box)
            self.assertEqual(told, as_box(next_of(book, sides(box))))
            self.assertTrue(is_box(book, told))


class LiesInTest(unittest.TestCase):
    def test_ordinary(self):
        box = ((ZERO, ONE), (HALF, HALF))
        for other, told in [
                (box, True), (((MINUS, TWO), (ZERO, ONE)), True), (((ZERO, TWO), (HALF, ONE)), True),
                (((HALF, ONE), (HALF, HALF)), False), (((ZERO, HALF), (HALF, HALF)), False),
                (box[:1] + ((ONE, ONE),), False), (box[:1] + ((ZERO, ZERO),), False),
                (((MINUS, (9999, 10000)), (ZERO, ONE)), False), ((((1, 10000), TWO), (ZERO, ONE)), False)]:
            self.assertIs(lies_in(box, other), told, other)

    def test_by_the_words(self):
        chance = random.Random(282)
        seen = []
        for _ in range(300):
            many = chance.randint(1, 3)
            one, other = make_box(chance, many, 3), make_box(chance, many, 6)
            told = all(
                yours[0] <= mine[0] and mine[1] <= yours[1] for mine, yours in zip(sides(one), sides(other)))
            self.assertIs(lies_in(one, other), told)
            seen.append(told)
        self.assertGreater(seen.count(True), 20)


class OwnBoxTest(unittest.TestCase):
    def judged(self, book):
        box = box_of(book)
        self.assertTrue(is_box(book, box), book)
        self.assertEqual(box, as_box(sides(box)))
        self.assertEqual(next_of(book, sides(box)), sides(box), book)
        self.assertEqual(next_box(book, box), box)
        self.assertIs(is_own_box(book, box), True)
        lows = tuple(low for low, _ in box)
        self.assertEqual(end_of(book), lows if all(low == high for low, high in box) else None)
        return box

    def test_ordinary(self):
        self.assertEqual(self.judged((CELL,)), ((ZERO, ONE),))
        self.assertEqual(self.judged((CELL[:1],)), ((ZERO, ZERO),))
        self.assertEqual(self.judged((CELL[1:],)), (((2, 3), (2, 3)),))
        self.assertEqual(self.judged((((TWO, (ZERO,)), (MINUS, (ZERO,)), (ONE, (ZERO,))),)), ((MINUS, TWO),))

    def test_reads_below_0_go_to_the_other_end(self):
        book = (((ZERO, (ZERO, (-1, 2))),), ((ZERO, (ZERO, ZERO)), (TWO, (ZERO, ZERO))))
        self.assertEqual(self.judged(book), ((MINUS, ZERO), (ZERO, TWO)))

    def test_rules_that_are_never_at_an_end(self):
        book = (((ZERO, (HALF,)), (ONE, (ZERO,)), (ONE, (HALF,))),)
        self.assertEqual(self.judged(book), ((ZERO, TWO),))
        self.assertEqual(self.judged((book[0] + ((HALF, ((1, 10),)),),)), ((ZERO, TWO),))

    def test_factors_above_1(self):
        book = (((ONE, (ZERO, (50, 1))), (ZERO, (ZERO, (-60, 1)))), ((ONE, ((1, 100), ZERO)),))
        self.judged(book)

    def test_by_the_words(self):
        points = [end is not None for end in (self.own_end(book) for _, book in books_with_weights(283, 250))]
        self.assertGreater(len(points), 60)

    def own_end(self, book):
        self.judged(book)
        return end_of(book)

    def test_points(self):
        for chance, book in books_with_weights(284, 80):
            single = tuple(cell[:1] for cell in book)
            if weights_of(single) is not None:
                values = self.own_end(single)
                self.assertIsNotNone(values)
                self.assertEqual([as_tuple(value_of(cell[0], [number(one) for one in values])) for cell in single],
                                 list(values))
                factors = ((1, 9),) + (ZERO,) * (len(book) - 1)
                kept = tuple(
                    cell + ((as_tuple(number(values[at]) - number(values[0]) / 9), factors),)
                    for at, cell in enumerate(single))
                if weights_of(kept) is not None:
                    self.assertEqual(self.own_end(kept), values)

    def test_holds_and_is_held(self):
        for chance, book in books_with_weights(285, 120, 3):
            own, box = box_of(book), make_box(chance, len(book))
            if lies_in(next_box(book, box), box):
                self.assertTrue(lies_in(own, box))
            if lies_in(box, next_box(book, box)):
                self.assertTrue(lies_in(box, own))

    def test_courses_come_into_it(self):
        for chance, book in books_with_weights(286, 60, 3):
            box, start = sides(box_of(book)), make_start(chance, book)
            _, values, _ = gone(book, start, make_row(chance, book, 90, 2))
            weights = [number(weight) for weight in weights_of(book)]
            far = max(
                max(low - number(value), number(value) - high, 0) / weight
                for (low, high), weight, pair in zip(box, weights, start) for value in pair)
            for (low, high), weight, of_cell in zip(box, weights, values):
                self.assertTrue(all(low - far * weight <= number(value) <= high + far * weight for value in of_cell))

    def test_rates_just_below_1(self):
        chance = random.Random(287)
        for many in range(1, 7):
            for _ in range(4):
                self.judged(near_one(chance, many))
        self.assertEqual(box_of((((ONE, ((9999, 10000),)), (MINUS, ((9999, 10000),))),)), (((-10000, 1), (10000, 1)),))

    def test_at_the_bounds(self):
        for seed in range(10):
            chance = random.Random(seed)
            for top, rules in [(Fraction(1, 7), 3), (Fraction(1, 5), 3), (Fraction(1, 7), 6)]:
                book = great_book(chance, top, rules)
                if weights_of(book) is not None:
                    self.judged(book)

    def test_heavy(self):
        for ask in (box_of, end_of):
            with self.assertRaises(Heavy) as caught:
                ask(HEAVY)
            self.assertIs(is_heavy_lot(HEAVY, caught.exception.found), True)
            for _, book, _ in heavy_books(288, 40):
                with self.assertRaises(Heavy) as caught:
                    ask(book)
                self.assertIs(is_heavy_lot(book, caught.exception.found), True)


class IsOwnBoxTest(unittest.TestCase):
    def test_of_a_book_with_weights(self):
        self.assertIs(is_own_box((CELL,), ((ZERO, ONE),)), True)
        for thing in [((ZERO, TWO),), ((MINUS, ONE),), ((ZERO, ZERO),), ((ZERO, (9999, 10000)),), ((ONE, ZERO),),
                      [(ZERO, ONE)], ([ZERO, ONE],), ((ZERO, ONE, ONE),), ((ZERO,),), ((ZERO, ONE),) * 2, (),
                      (((0, 2), ONE),), ((ZERO, (2, 2)),), (((0, True), ONE),), (((False, 1), ONE),),
                      ((ZERO, (True, 1)),), ((ZERO, (1, True)),), ((0, 1),), (0, 1), None]:
            self.assertIs(is_own_box((CELL,), thing), False, thing)

    def test_any_values(self):
        for thing in odd_values():
            self.assertIs(is_own_box((CELL,), thing), False, thing)
            self.assertIs(is_own_box(HEAVY, thing), False, thing)
        for thing in spoiled(((ZERO, ONE),)):
            self.assertIs(is_own_box((CELL,), thing), False, thing)

    def test_of_books_with_a_heavy_lot(self):
        """None, several, or one."""
        for box in [((ZERO, ZERO), (ZERO, ZERO)), ((ZERO, ONE), (ZERO, ZERO)), (((-5, 1), (5, 1)), (ZERO, ZERO))]:
            self.assertIs(is_own_box(HEAVY, box), False)
        same = (((ZERO, (ONE,)),),)
        for box in [((ZERO, ZERO),), ((MINUS, ONE),), ((HALF, (10 ** 50, 1)),)]:
            self.assertIs(is_own_box(same, box), True)
        self.assertIs(is_own_box(same, ((ONE, ZERO),)), False)
        double = (((ONE, (TWO,)),),)
        self.assertIs(is_own_box(double, ((MINUS, MINUS),)), True)
        self.assertIs(is_own_box(double, ((MINUS, ZERO),)), False)
        turned = (((ONE, (MINUS,)),),)
        self.assertIs(is_own_box(turned, ((ZERO, ONE),)), True)
        self.assertIs(is_own_box(turned, ((HALF, HALF),)), True)
        self.assertIs(is_own_box(turned, ((ZERO, TWO),)), False)

    def test_low_above_high_is_no_box(self):
        """The ends that the rules would keep stand the wrong way about: that is no box."""
        book = (((ONE, (TWO,)), (ZERO, (TWO,))),)
        self.assertIs(is_own_box(book, ((ZERO, MINUS),)), False)

    def test_by_the_words(self):
        chance = random.Random(289)
        for _, book in some_books(289, 150, 3):
            box = make_box(chance, len(book), 2)
            self.assertIs(is_own_box(book, box), next_of(book, sides(box)) == sides(box))
            if weights_of(book) is not None:
                own = box_of(book)
                for other in [next_box(book, box), own[:-1] + ((own[-1][0], as_tuple(number(own[-1][1]) + 1)),)]:
                    self.assertIs(is_own_box(book, other), other == own)
