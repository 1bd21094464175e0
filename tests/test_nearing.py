"""[29], and [6]: nearing rounds."""

import random
import unittest
from fractions import Fraction

from onelate.boxes import box_of
from onelate.errors import Heavy, TooMany
from onelate.forms import is_round
from onelate.heavylots import is_heavy_lot
from onelate.nearing import misses, nearing_round, rounds_for
from onelate.weights import rate_by, weights_of
from tests.judge import (
    HALF, ONE, TWO, ZERO, as_ages, as_tuple, books_with_weights, end_in, gone, great_book, heavy_books, make_start,
    number, sides)
from tests.test_boxes import CELL, HEAVY, near_one

PAIR = (((TWO, (ZERO, (-1, 3))),), ((ZERO, (HALF, ZERO)),))
START = ((HALF, HALF),)


def round_of(book):
    """By the words of [29]."""
    box = sides(box_of(book))
    turns = []
    for cell, rules in enumerate(book):
        high = min(at for at, rule in enumerate(rules) if end_in(rule, box, 1) == box[cell][1])
        low = min(at for at, rule in enumerate(rules) if end_in(rule, box, 0) == box[cell][0])
        factors = [number(factor) for factor in rules[high][1]]
        turns.append((cell, high, tuple(other for other, factor in enumerate(factors) if factor > 0)))
        factors = [number(factor) for factor in rules[low][1]]
        turns.append((cell, low, tuple(
            other for other, factor in enumerate(factors)
            if (other == cell and factor > 0) or (other != cell and factor < 0))))
    return tuple(turns)


def missed(book, start, rounds):
    """By the words, the round gone turn by turn."""
    _, values, _ = gone(book, start, as_ages(book, round_of(book) * rounds))
    return tuple(
        (as_tuple(abs(number(of_cell[-1]) - low)), as_tuple(abs(number(of_cell[-2]) - high)))
        for of_cell, (low, high) in zip(values, sides(box_of(book))))


def worst(told):
    return max(number(one) for pair in told for one in pair)


class NearingRoundTest(unittest.TestCase):
    def test_ordinary(self):
        self.assertEqual(nearing_round((CELL,)), ((0, 1, ()), (0, 0, (0,))))
        self.assertEqual(nearing_round(PAIR), ((0, 0, ()), (0, 0, (1,)), (1, 0, (0,)), (1, 0, ())))

    def test_late_of_both_turns(self):
        """A cell that reads itself and others, with factors above and below 0."""
        book = (
            ((ONE, ((1, 5), (1, 5), (-1, 5))), (TWO, ((-1, 5), (1, 5), (-1, 5)))),
            ((ONE, ((-1, 5), ZERO, (1, 5))),), ((ZERO, (ZERO, (-1, 5), (-1, 5))),))
        self.assertEqual(nearing_round(book), round_of(book))
        self.assertEqual(nearing_round(book), (
            (0, 1, (1,)), (0, 0, (0, 2)), (1, 0, (2,)), (1, 0, (0,)), (2, 0, ()), (2, 0, (1,))))

    def test_the_least_rules(self):
        same = (((ZERO, (HALF,)), (ONE, ((-1, 2),)), (ONE, ((-1, 2),)), (ZERO, (HALF,))),)
        self.assertEqual(nearing_round(same), ((0, 1, ()), (0, 0, (0,))))
        told = (((ONE, (ZERO,)), (ZERO, (ZERO,)), (HALF, (HALF,)), (ZERO, ((1, 9),))),)
        self.assertEqual(nearing_round(told), ((0, 0, ()), (0, 1, ())))
        reads = (told[0][::-1],)
        self.assertEqual(nearing_round(reads), ((0, 1, (0,)), (0, 0, (0,))))

    def test_by_the_words(self):
        many = 0
        for _, book in books_with_weights(29, 200):
            many += 1
            told = nearing_round(book)
            self.assertEqual(told, round_of(book), book)
            self.assertTrue(is_round(book, told))
        self.assertGreater(many, 50)


class MissesTest(unittest.TestCase):
    def test_ordinary(self):
        self.assertEqual(misses((CELL,), START, 0), ((HALF, HALF),))
        self.assertEqual(misses((CELL,), START, 1), (((1, 4), (1, 4)),))
        self.assertEqual(misses((CELL,), ((ZERO, ONE),), 0), ((ZERO, ZERO),))
        self.assertEqual(misses((CELL,), ((ZERO, ONE),), 5), ((ZERO, ZERO),))
        self.assertEqual(misses((CELL,), ((ONE, ZERO),), 0), ((ONE, ONE),))
        self.assertEqual(misses((CELL,), (((3, 1), (-1, 1)),), 0), (((3, 1), TWO),))

    def test_turn_by_turn(self):
        for chance, book in books_with_weights(291, 120):
            start = make_start(chance, book)
            for rounds in (0, 1, 2, chance.randint(3, 6)):
                self.assertEqual(misses(book, start, rounds), missed(book, start, rounds), (book, start, rounds))

    def test_by_weights(self):
        for chance, book in books_with_weights(292, 60):
            start, weights = make_start(chance, book), weights_of(book)
            rate = number(rate_by(book, weights))
            first = [
                max(number(one) for one in pair) / number(weight)
                for pair, weight in zip(misses(book, start, 0), weights)]
            for rounds in (1, 3, 10):
                for pair, weight in zip(misses(book, start, rounds), weights):
                    self.assertLessEqual(worst([pair]) / number(weight), rate ** rounds * max(first))

    def test_sixty_rounds(self):
        chance = random.Random(293)
        for book in [(CELL,), PAIR, great_book(chance, Fraction(1, 7)), great_book(chance, Fraction(1, 5), 3, 0.5),
                     great_book(chance, Fraction(1, 8), 6), near_one(chance, 6)]:
            start = make_start(chance, book)
            told = misses(book, start, 60)
            self.assertTrue(all(one == as_tuple(number(one)) for pair in told for one in pair))
            weights = weights_of(book)
            least, most = min(number(one) for one in weights), max(number(one) for one in weights)
            rate = number(rate_by(book, weights))
            self.assertLessEqual(worst(told), rate ** 60 * worst(misses(book, start, 0)) * most / least)

    def test_great_books_turn_by_turn(self):
        for seed in range(3):
            chance = random.Random(seed)
            book = great_book(chance, Fraction(1, 7))
            start = make_start(chance, book)
            self.assertEqual(misses(book, start, 4), missed(book, start, 4))

    def test_heavy(self):
        start = ((ZERO, ZERO),) * 2
        for ask in (lambda: misses(HEAVY, start, 3), lambda: rounds_for(HEAVY, start, ONE),
                    lambda: nearing_round(HEAVY), lambda: misses(HEAVY, start, 0)):
            with self.assertRaises(Heavy) as caught:
                ask()
            self.assertIs(is_heavy_lot(HEAVY, caught.exception.found), True)
        for chance, book, _ in heavy_books(294, 20):
            for ask in (lambda: misses(book, make_start(chance, book), 1), lambda: nearing_round(book)):
                with self.assertRaises(Heavy) as caught:
                    ask()
                self.assertIs(is_heavy_lot(book, caught.exception.found), True)


class RoundsForTest(unittest.TestCase):
    def test_ordinary(self):
        self.assertEqual(rounds_for((CELL,), START, (1, 10)), 3)
        self.assertEqual(rounds_for((CELL,), START, HALF), 0)
        self.assertEqual(rounds_for((CELL,), START, (1, 4)), 1)
        self.assertEqual(rounds_for((CELL,), START, (249, 1000)), 2)
        self.assertEqual(rounds_for((CELL,), ((ZERO, ONE),), (1, 10 ** 4)), 0)

    def test_up_to_60(self):
        near = lambda rounds: (1, 2 ** (rounds + 1))
        for rounds in (58, 59, 60):
            self.assertEqual(rounds_for((CELL,), START, near(rounds)), rounds)
        with self.assertRaises(TooMany) as caught:
            rounds_for((CELL,), START, near(61))
        self.assertEqual(caught.exception.most, 60)
        slow = (((ZERO, ((9999, 10000),)),),)
        with self.assertRaises(TooMany):
            rounds_for(slow, ((ONE, ONE),), (1, 10))
        self.assertEqual(rounds_for(slow, ((ONE, ONE),), (9999, 10000)), 1)

    def test_both_values_of_each_cell_count(self):
        pairs = [((ONE, ZERO), (ZERO, ZERO)), ((ZERO, ONE), (ZERO, ZERO)), ((ZERO, ZERO), (ONE, ZERO)),
                 ((ZERO, ZERO), (ZERO, ONE))]
        book = (((ZERO, (HALF, ZERO)),), ((ZERO, (ZERO, HALF)),))
        for start in pairs:
            told = [worst(missed(book, start, rounds)) for rounds in range(9)]
            least = min(at for at in range(9) if told[at] <= Fraction(1, 10))
            self.assertEqual(rounds_for(book, start, (1, 10)), least)

    def test_the_least_number(self):
        seen = []
        for chance, book in books_with_weights(295, 80):
            start = make_start(chance, book)
            nearness = (1, chance.choice((1, 3, 10, 50)))
            told = [worst(misses(book, start, rounds)) <= number(nearness) for rounds in range(16)]
            if True in told:
                self.assertEqual(rounds_for(book, start, nearness), told.index(True))
                seen.append(told.index(True))
        self.assertGreater(len(set(seen)), 4)

    def test_behind_more_some_may_be_above_again(self):
        """The second cell is near at once, as nothing is read of the first by then."""
        book = (((ZERO, (ZERO, ZERO)),), ((ZERO, ((1, 2), ZERO)),))
        self.assertEqual(rounds_for(book, ((ONE, ONE), (ZERO, ZERO)), HALF), 1)
        self.assertEqual(rounds_for(book, ((HALF, HALF), (ZERO, ZERO)), HALF), 0)
        mixed = (((ZERO, (ZERO, (3, 1))),), ((ZERO, ((1, 9), (1, 3))),))
        start = ((ZERO, ZERO), ((1, 4), (1, 4)))
        told = [worst(missed(mixed, start, rounds)) for rounds in range(3)]
        self.assertGreater(told[1], told[0])
        self.assertEqual(rounds_for(mixed, start, (1, 4)), 0)
