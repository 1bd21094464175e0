"""[45], and [9]: books that late reads alone keep apart."""

import random
import unittest
from fractions import Fraction

from onelate.apart import apart_round, apart_start
from onelate.errors import NotEven, NotTold
from onelate.even import scales_of, squares_of
from onelate.heavylots import heavy_lot, is_heavy_lot
from onelate.latealone import calm_prompt, late_alone
from onelate.rows import as_aged, ran
from onelate.signs import signs_of
from tests.judge import (
    HALF, ONE, TWO, ZERO, as_tuple, choices, great_book, has_weights, make_book, make_fraction, number, plain,
    some_factor, value_of)
from tests.test_even import even_book, minors
from tests.test_signs import TRIPLE, all_signs

MINUS = (-1, 1)
PAIR = (((ZERO, (ZERO, (-2, 1))),), ((ZERO, ((-1, 8), ZERO)),))
NEITHER = (((ZERO, (MINUS,)),),)


def mixed_books(seed, many):
    """Books with signs, even ones, both, and neither."""
    chance = random.Random(seed)
    for _ in range(many):
        cells = chance.randint(1, 4)
        kind = chance.randrange(4)
        if kind == 0:
            yield make_book(chance, cells, 2, lambda: make_fraction(chance, 9, 5), 0.6)
        elif kind == 1:
            yield even_book(chance, cells, chance.choice((1, 2)), 0.2)[0]
        elif kind == 2:
            top = Fraction(3, 2) / cells
            yield tuple(tuple((told, tuple((abs(num), den) for num, den in factors)) for told, factors in cell)
                        for cell in make_book(chance, cells, 2, some_factor(chance, top), 0.2))
        else:
            yield even_book(chance, 2, chance.choice((1, 2)), 0)[0]


def close_book(chance, many):
    """An even book of cells that all pull the others below 0, about as much as keeps courses together."""
    roots = [Fraction(chance.randint(1, 4), chance.randint(1, 4)) for _ in range(many)]
    rows = [[Fraction(0)] * many for _ in range(many)]
    for cell in range(many):
        for other in range(cell):
            both = -Fraction(chance.randint(45, 95), 100) * Fraction(2, many)
            rows[cell][other] = both * roots[other] / roots[cell]
            rows[other][cell] = both * roots[cell] / roots[other]
    return tuple(((make_fraction(chance, 9, 9), tuple(as_tuple(item) for item in row)),) for row in rows)


class CalmTest(unittest.TestCase):
    def test_ordinary(self):
        self.assertIs(calm_prompt(TRIPLE), True)
        self.assertIs(calm_prompt(PAIR), True)
        self.assertIs(calm_prompt((((ONE, (HALF,)),),)), True)
        self.assertIs(calm_prompt((((ONE, (ONE,)),),)), False)
        self.assertIs(calm_prompt((((ONE, (ZERO, MINUS)),), ((ONE, (MINUS, ZERO)),))), False)

    def test_neither(self):
        for book in [NEITHER, (((ZERO, (ZERO, HALF)), (ZERO, (ZERO, (-1, 2)))), ((ZERO, (ZERO, ZERO)),)),
                     (((ZERO, (ZERO, HALF)),), ((ZERO, ((-1, 2), ZERO)),))]:
            with self.assertRaises(NotTold):
                calm_prompt(book)

    def test_by_the_words(self):
        seen = []
        for book in mixed_books(45, 400):
            signs, scales = all_signs(book) != [], scales_of(book) is not None
            told = None
            if signs or scales:
                told = calm_prompt(book)
                if signs:
                    self.assertIs(told, has_weights(book))
                if scales:
                    self.assertIs(told, all(minor > 0 for minor in minors(book)))
            else:
                with self.assertRaises(NotTold):
                    calm_prompt(book)
            seen.append((signs, scales, told))
        for kind in [(True, True, True), (True, True, False), (True, False, True), (True, False, False),
                     (False, True, True), (False, True, False), (False, False, None)]:
            self.assertGreater(seen.count(kind), 5, kind)

    def test_at_the_bounds(self):
        for seed in range(6):
            book = great_book(random.Random(seed), 1, 3, 0.8)
            if signs_of(book) is None:
                with self.assertRaises(NotTold):
                    calm_prompt(book)
            else:
                self.assertIs(calm_prompt(book), has_weights(book))


class LateAloneTest(unittest.TestCase):
    def judged(self, book):
        told = late_alone(book)
        both = all(minor > 0 for minor in minors(book)) and not has_weights(book)
        self.assertEqual(told is not None, both, book)
        if told is not None:
            self.assertIsInstance(told, tuple)
            self.assertEqual((len(told), told[0]), (2, squares_of(book)))
            self.assertIs(is_heavy_lot(book, told[1]), True)
            self.assertIs(calm_prompt(book), True)
            self.assertIsNone(signs_of(book))
        return both

    def test_example(self):
        self.assertTrue(self.judged(TRIPLE))
        self.assertEqual(late_alone(TRIPLE)[1][:2], ((0, 0, 0), (0, 1, 2)))
        self.assertFalse(self.judged(PAIR))

    def test_at_the_edges(self):
        """Three cells with one factor: a heavy lot from 1/2 on, squares below 1."""
        for factor, told in [((-1, 2), True), ((-4999, 10000), False), ((-9999, 10000), True), (MINUS, False),
                             (HALF, False), ((1, 3), False), ((-2, 1), False)]:
            book = tuple(((ONE, tuple(ZERO if at == cell else factor for at in range(3))),) for cell in range(3))
            self.assertIs(self.judged(book), told, factor)

    def test_not_even(self):
        for book in [NEITHER, (((ZERO, (HALF,)),),), (((ZERO, (ZERO,)),) * 2,),
                     (((ZERO, (ZERO, HALF)),), ((ZERO, (ZERO, ZERO)),))]:
            with self.assertRaises(NotEven):
                late_alone(book)

    def test_by_the_words(self):
        chance, seen = random.Random(451), []
        for _ in range(100):
            seen.append(self.judged(close_book(chance, chance.randint(2, 5))))
            seen.append(self.judged(even_book(chance, chance.randint(1, 5), chance.choice((1, 2)), 0.1)[0]))
        self.assertGreater(min(seen.count(True), seen.count(False)), 20)

    def test_prompt_rows_and_one_round_with_late_reads(self):
        """[9]: the same book comes together by prompt rounds, and does not by one round with late reads."""
        chance, seen = random.Random(452), 0
        while seen < 15:
            book = close_book(chance, 3)
            told = late_alone(book)
            if told is None:
                continue
            seen += 1
            found = told[1]
            signs = (1,) * len(found[1])
            start = apart_start(book, found, signs)
            round_ = as_aged(plain(book), apart_round(book, found, tuple(range(3)), signs))
            after = ran(plain(book), start, round_ * 5)
            for cell, share in zip(found[1], found[2]):
                self.assertTrue(all(abs(number(value)) >= number(share) for value in after[cell]))
            values = [number(pair[0]) for pair in start]
            first = max(abs(value) for value in values)
            for _ in range(400):
                for cell in range(3):
                    values[cell] = value_of(plain(book)[cell][0], values)
                values = [Fraction(int(value * 10 ** 9), 10 ** 9) for value in values]
            self.assertLess(max(abs(value) for value in values), first / 2)

    def test_heavy_lots_by_all_choices(self):
        chance = random.Random(453)
        for _ in range(40):
            book, _ = even_book(chance, 4, 2, 0.3)
            self.assertEqual(choices(book), [(0, 0, 0, 0)])
            self.assertEqual(heavy_lot(book) is None, has_weights(book))
