"""[22], and [5]: weights, or a heavy lot."""

import random
import unittest
from fractions import Fraction

from onelate.books import chosen_book, plain_book, renumbered, scaled_book
from onelate.choices import burdens_by
from onelate.errors import Heavy
from onelate.weights import is_weights, rate_by, weights_for, weights_of
from tests.judge import (
    HALF, ONE, TWO, ZERO, are_weights, as_tuple, choices, great_book, has_weights, is_heavy, number, numbers,
    odd_values, some_books)

RING = (((ZERO, (ZERO, TWO)),), ((ONE, ((1, 4), ZERO)), (ZERO, ((-1, 3), ZERO))))
TURN = (((ZERO, ((-1, 1), ZERO)),), ((ZERO, (HALF, ZERO)),))
SINGLE, CONSTANT = (((ONE, (HALF,)),),), (((ONE, (ZERO,)),),)


def ring(factors):
    """Each cell reads the next one, the last one the first."""
    many = len(factors)
    return tuple(
        ((ZERO, tuple(factor if other == (at + 1) % many else ZERO for other in range(many))),)
        for at, factor in enumerate(factors))


class WeightsTest(unittest.TestCase):
    def found(self, book):
        """The heavy lot that weights_for finds; it is judged by the words of [2]."""
        with self.assertRaises(Heavy) as caught:
            weights_for(book, (ONE,) * len(book))
        found = caught.exception.found
        self.assertIsInstance(found, tuple)
        self.assertTrue(all(isinstance(part, tuple) for part in found))
        self.assertTrue(is_heavy(book, found), (book, found))
        return found

    def judged(self, book):
        """Whether the book has weights: by what the program finds, by the words of [2] and [5]."""
        weights = weights_of(book)
        self.assertEqual(weights is not None, has_weights(book), book)
        if weights is None:
            self.found(book)
        else:
            self.assertTrue(are_weights(book, weights), book)
            self.assertEqual(weights, tuple(as_tuple(number(one)) for one in weights))
            self.assertTrue(is_weights(book, weights))
            weights_for(book, (ZERO,) * len(book))
        return weights is not None

    def test_weights_or_a_heavy_lot(self):
        self.assertTrue(self.judged(RING))
        self.assertFalse(self.judged(TURN))
        self.assertTrue(self.judged(SINGLE))
        self.assertTrue(self.judged(CONSTANT))
        told = [self.judged(book) for _, book in some_books(22, 250)]
        self.assertGreater(min(told.count(True), told.count(False)), 50)

    def test_rates_about_one(self):
        for num in (9999, -9999):
            for many in range(1, 7):
                self.assertTrue(self.judged(ring(((num, 10000),) + (ONE,) * (many - 1))))
                self.assertTrue(self.judged(ring((ONE,) * (many - 1) + ((num, 10000),))))
        for edge in ((1, 1), (-1, 1), (10001, 10000), (-10001, 10000)):
            for many in range(1, 7):
                self.assertFalse(self.judged(ring((edge,) + (ONE,) * (many - 1))))
        self.assertTrue(self.judged(ring(((10 ** 6, 1), (1, 10 ** 4), (1, 101)))))
        self.assertFalse(self.judged(ring(((10 ** 6, 1), (1, 10 ** 4), (1, 100)))))
        full = tuple(((ONE, ((1, 6),) * 6),) * 3 for _ in range(6))
        self.assertFalse(self.judged(full))
        self.assertTrue(self.judged(scaled_book(full, (9999, 10000))))
        self.assertFalse(self.judged(scaled_book(full, (10001, 10000))))

    def test_one_great_rule_among_others(self):
        mixed = (((ZERO, (ZERO, HALF)), (ZERO, ((9, 10), ZERO))), ((ZERO, ((19, 10), ZERO)), (ZERO, (ZERO, ZERO))))
        self.assertTrue(self.judged(mixed))
        heavier = (mixed[0], (mixed[1][0], (ZERO, (TWO, ZERO))))
        self.assertFalse(self.judged(heavier))
        self.assertEqual(self.found(heavier)[:2], ((0, 1), (0, 1)))

    def test_told_numbers_and_signs_mean_nothing(self):
        for _, book in some_books(3, 30):
            turned = tuple(
                tuple((told, tuple(as_tuple(-number(factor)) for factor in factors)) for told, factors in cell)
                for cell in plain_book(book))
            self.assertEqual(self.judged(book), self.judged(turned))

    def test_all_books_of_a_book_with_weights_have_them(self):
        for _, book in some_books(4, 30):
            if self.judged(book):
                self.assertTrue(all(weights_of(chosen_book(book, choice)) for choice in choices(book)[:9]))
                self.assertTrue(self.judged(renumbered(book, tuple(range(len(book)))[::-1])))

    def test_at_the_bounds(self):
        for seed in range(12):
            chance = random.Random(seed)
            for rules, top in ((3, Fraction(1, 6)), (3, Fraction(2, 5)), (6, Fraction(1, 5))):
                book = great_book(chance, top, rules)
                weights = weights_of(book)
                if weights is None:
                    self.found(book)
                else:
                    self.assertTrue(are_weights(book, weights))

    def test_extreme_numbers(self):
        for low in (98, 99, 101, 102):
            great = (((ZERO, (ZERO, (10 ** 6, 1), (-(10 ** 6), 1))),), ((ONE, ((1, 10 ** 4), ZERO, ZERO)),),
                     ((ONE, (ZERO, (1, low), ZERO)), (ONE, ((1, 10 ** 4), ZERO, ZERO))))
            self.assertEqual(self.judged(great), False)
        small = scaled_book(great, (1, 10 ** 4))
        self.assertTrue(self.judged(small))


class IsWeightsTest(unittest.TestCase):
    def test_what_they_are(self):
        self.assertTrue(is_weights(RING, ((5, 2), ONE)))
        self.assertTrue(is_weights(RING, ((5, 1), TWO)))
        self.assertTrue(is_weights(RING, ((299, 100), ONE)) and is_weights(RING, ((201, 100), ONE)))
        self.assertTrue(is_weights(CONSTANT, ((1, 10 ** 50),)))
        self.assertIs(is_weights(SINGLE, (ONE,)), True)

    def test_what_they_are_not(self):
        for thing in [(TWO, ONE), ((3, 1), ONE), (ONE, ONE), (ONE, TWO), ((4, 1), ONE), (ONE,),
                      ((5, 2), ONE, ONE), [(5, 2), ONE], ((5, 2), (2, 2)), ((5, 2), [1, 1]), ((5, 2), 1), (2, 1),
                      ((10, 4), ONE), ((5, 2), (1, True)), ((-5, 2), (-1, 1)), ((5, 2), (-1, -1)), (), ((5, 2), None),
                      {0: (5, 2), 1: ONE}]:
            self.assertIs(is_weights(RING, thing), False, thing)

    def test_zeros(self):
        self.assertFalse(is_weights(CONSTANT, (ZERO,)))
        self.assertFalse(is_weights(SINGLE, (ZERO,)))
        self.assertFalse(is_weights((CONSTANT[0] * 2,), ((-1, 2),)))
        self.assertFalse(is_weights((((ONE, (ZERO, ZERO)),),) * 2, (ONE, ZERO)))

    def test_numbers_below_zero(self):
        double = (((ZERO, (TWO,)),),)
        self.assertFalse(is_weights(double, ((-1, 1),)))
        self.assertFalse(is_weights((((ZERO, (TWO, ZERO)),), ((ZERO, (TWO, ZERO)),)), ((-1, 1), ZERO)))
        self.assertFalse(is_weights((((ZERO, (TWO, ZERO)),), ((ZERO, (TWO, ZERO)),)), ((-1, 1), ONE)))

    def test_of_a_book_without_weights(self):
        for thing in ((ONE, ONE), (TWO, ONE), (ONE, TWO)):
            self.assertFalse(is_weights(TURN, thing))

    def test_any_values(self):
        for thing in odd_values():
            for book in (RING, SINGLE, CONSTANT, TURN):
                self.assertIs(is_weights(book, thing), False, thing)

    def test_by_the_words(self):
        seen = []
        for chance, book in some_books(8, 200):
            weights = tuple(as_tuple(Fraction(chance.randint(0, 9), 3)) for _ in book)
            mine = is_weights(book, weights)
            self.assertEqual(mine, are_weights(book, weights))
            seen.append(mine)
            own = weights_of(book)
            if own is not None:
                rate = number(rate_by(book, own))
                less = (as_tuple(number(own[0]) * rate),) + own[1:]
                self.assertEqual(is_weights(book, less), are_weights(book, less))
        self.assertGreater(seen.count(True), 10)


class WeightsForTest(unittest.TestCase):
    def kept(self, book, right):
        found = weights_for(book, right)
        self.assertIsInstance(found, tuple)
        self.assertEqual(len(found), len(book))
        self.assertEqual(found, tuple(as_tuple(number(one)) for one in found))
        self.assertTrue(all(one[0] >= 0 for one in found))
        burdens = [
            max(sum(abs(number(factor)) * number(one) for factor, one in zip(rule[1], found)) for rule in cell)
            for cell in book]
        self.assertEqual(numbers(found), [burden + number(item) for burden, item in zip(burdens, right)])
        return found

    def test_ordinary(self):
        self.assertEqual(self.kept(SINGLE, (ONE,)), (TWO,))
        self.assertEqual(self.kept(CONSTANT, (HALF,)), (HALF,))
        self.assertEqual(self.kept(RING, (ZERO, ONE)), ((6, 1), (3, 1)))
        self.assertEqual(self.kept(RING, (ONE, ZERO)), ((3, 1), ONE))

    def test_zeros(self):
        self.assertEqual(self.kept(RING, (ZERO, ZERO)), (ZERO, ZERO))
        one_way = (((ZERO, (HALF, TWO, ZERO)),), ((ONE, (ZERO, ZERO, ZERO)),), ((ONE, ((9, 1), ZERO, HALF)),))
        self.assertEqual(self.kept(one_way, (ZERO, ZERO, ONE)), (ZERO, ZERO, TWO))
        self.assertEqual(self.kept(one_way, (ZERO, ONE, ZERO)), ((4, 1), ONE, (72, 1)))

    def test_by_the_words(self):
        many = 0
        for chance, book in some_books(14, 200):
            if not has_weights(book):
                continue
            many += 1
            right = tuple(chance.choice((ZERO, ONE, as_tuple(Fraction(chance.randint(0, 99), 10)))) for _ in book)
            found = self.kept(book, right)
            more = tuple(as_tuple(number(one) + chance.choice((0, 0, 2))) for one in right)
            greater = self.kept(book, more)
            self.assertTrue(all(number(one) <= number(other) for one, other in zip(found, greater)))
            if all(one[0] > 0 for one in right):
                self.assertTrue(is_weights(book, found))
            self.assertEqual(self.kept(book, (ZERO,) * len(book)), (ZERO,) * len(book))
        self.assertGreater(many, 40)

    def test_heavy_with_zeros_too(self):
        for right in ((ZERO, ZERO), (ZERO, ONE), (ONE, ZERO), (ONE, ONE)):
            with self.assertRaises(Heavy) as caught:
                weights_for(TURN, right)
            self.assertTrue(is_heavy(TURN, caught.exception.found))
            self.assertEqual(caught.exception.found[:2], ((0, 0), (0,)))


class RateTest(unittest.TestCase):
    def test_ordinary(self):
        self.assertEqual(rate_by(RING, ((5, 2), ONE)), (5, 6))
        self.assertEqual(rate_by(RING, (ONE, ONE)), TWO)
        self.assertEqual(rate_by(SINGLE, (ONE,)), HALF)
        self.assertEqual(rate_by(CONSTANT, ((3, 7),)), ZERO)
        self.assertEqual(rate_by(TURN, (ONE, TWO)), ONE)

    def test_below_one_exactly_for_weights(self):
        for chance, book in some_books(9, 200):
            values = weights_of(book) or tuple(as_tuple(Fraction(chance.randint(1, 99), 10)) for _ in book)
            rate = rate_by(book, values)
            burdens = burdens_by(book, values)
            self.assertEqual(number(rate), max(number(one) / number(by) for one, by in zip(burdens, values)))
            self.assertEqual(number(rate) < 1, are_weights(book, values))
