"""[21]: choices."""

import random
import unittest
from itertools import product

from onelate.choices import all_choices, best_choice, burdens_by, sizes_of
from onelate.forms import is_choice
from tests.judge import HALF, ONE, TWO, ZERO, as_tuple, make_book, make_fraction, number

MINUS, THIRD = (-1, 1), (1, 3)
NONE = (TWO, (ZERO, ZERO))
BOOK = (
    ((ONE, (HALF, ZERO)), (ZERO, (ZERO, (-1, 2))), (TWO, ((-1, 4), (1, 4)))),
    (NONE, (ZERO, (MINUS, TWO))))
SINGLE = (((ONE, (MINUS,)),),)


def burden(rule, values):
    return sum(abs(number(factor)) * number(value) for factor, value in zip(rule[1], values))


class ChoicesTest(unittest.TestCase):
    def test_burdens(self):
        self.assertEqual(burdens_by(SINGLE, (THIRD,)), (THIRD,))
        self.assertEqual(burdens_by(BOOK, (ONE, ONE)), (HALF, (3, 1)))
        self.assertEqual(burdens_by(BOOK, (ZERO, ONE)), (HALF, TWO))
        self.assertEqual(burdens_by(BOOK, ((3, 1), ONE)), ((3, 2), (5, 1)))
        self.assertEqual(burdens_by(BOOK, (ZERO, ZERO)), (ZERO, ZERO))
        self.assertEqual(burdens_by(((NONE,), (NONE,)), (ONE, ONE)), (ZERO, ZERO))

    def test_ties_go_to_the_least_rule(self):
        self.assertEqual(best_choice(BOOK, (ONE, ONE)), (0, 1))
        self.assertEqual(best_choice(BOOK, (ZERO, ZERO)), (0, 0))
        self.assertEqual(best_choice(BOOK, (ZERO, ONE)), (1, 1))
        self.assertEqual(best_choice(BOOK, (ONE, ZERO)), (0, 1))
        rising = (((ZERO, (HALF,)), (ZERO, (MINUS,)), (ZERO, (ONE,)), (ZERO, (HALF,))),)
        self.assertEqual(best_choice(rising, (TWO,)), (1,))
        self.assertEqual(best_choice(SINGLE, (TWO,)), (0,))

    def test_by_the_words(self):
        chance = random.Random(21)
        for _ in range(100):
            book = make_book(chance, chance.randint(1, 6), 3, lambda: make_fraction(chance, 2, 2))
            values = tuple(as_tuple(abs(number(make_fraction(chance, 2, 2)))) for _ in book)
            burdens = [[burden(rule, values) for rule in cell] for cell in book]
            self.assertEqual(burdens_by(book, values), tuple(as_tuple(max(some)) for some in burdens))
            self.assertEqual(best_choice(book, values), tuple(some.index(max(some)) for some in burdens))

    def test_all_choices(self):
        self.assertEqual(all_choices(SINGLE), [(0,)])
        self.assertEqual(all_choices(BOOK), [(0, 0), (0, 1), (1, 0), (1, 1), (2, 0), (2, 1)])
        book = make_book(random.Random(6), 6, 3, lambda: HALF)
        self.assertEqual(all_choices(book), sorted(product(*[range(len(cell)) for cell in book])))
        self.assertTrue(all(is_choice(book, choice) for choice in all_choices(book)))

    def test_all_choices_at_the_bound(self):
        cell = ((ZERO, (HALF,) * 6),) * 3
        choices = all_choices((cell,) * 6)
        self.assertEqual([len(choices), choices[0], choices[1], choices[-1]], [729, (0,) * 6, (0,) * 5 + (1,), (2,) * 6])

    def test_sizes(self):
        self.assertEqual(sizes_of(SINGLE, (0,)), ((ONE,),))
        self.assertEqual(sizes_of(BOOK, (0, 0)), ((HALF, ZERO), (ZERO, ZERO)))
        self.assertEqual(sizes_of(BOOK, (1, 1)), ((ZERO, HALF), (ONE, TWO)))
        self.assertEqual(sizes_of(BOOK, (2, 1)), (((1, 4), (1, 4)), (ONE, TWO)))
