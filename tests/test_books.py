"""[13]: books."""

import random
import unittest
from itertools import permutations

from onelate.books import (
    chosen_book, plain_book, reads_of, renumbered, scaled_book, value_by, with_errors, with_rule, without_reads,
    without_rules)
from onelate.errors import NoRule
from onelate.forms import is_book
from tests.judge import HALF, ONE, TWO, ZERO, as_tuple, make_book, make_fraction, number, value_of

THIRD, MINUS = (1, 3), (-1, 1)
RULE = (HALF, (ZERO, TWO, MINUS))
CONSTANT = (THIRD, (ZERO, ZERO, ZERO))
BOOK = ((RULE, CONSTANT), (CONSTANT,), ((ZERO, (HALF, ZERO, ONE)), RULE, CONSTANT))
SINGLE = (((ONE, (HALF,)),),)


class RulesTest(unittest.TestCase):
    def test_reads_of(self):
        self.assertEqual(reads_of(RULE), (1, 2))
        self.assertEqual(reads_of(CONSTANT), ())
        self.assertEqual(reads_of((ONE, (HALF,))), (0,))
        self.assertEqual(reads_of((ONE, ((-1, 9), ONE, ONE))), (0, 1, 2))

    def test_value_by(self):
        self.assertEqual(value_by(RULE, ((9, 1), THIRD, (1, 6))), (1, 1))
        self.assertEqual(value_by(CONSTANT, (ONE, ONE, ONE)), THIRD)
        self.assertEqual(value_by((ONE, (HALF,)), ((-2, 1),)), ZERO)

    def test_value_by_as_numbers_have_it(self):
        chance = random.Random(1)
        for _ in range(200):
            rule = make_book(chance, 4, 1, lambda: make_fraction(chance, 20, 20))[0][0]
            values = tuple(make_fraction(chance, 50, 9) for _ in range(4))
            self.assertEqual(value_by(rule, values), as_tuple(value_of(rule, [number(one) for one in values])))


class BooksTest(unittest.TestCase):
    def test_plain_book(self):
        self.assertEqual(plain_book(SINGLE), (((ZERO, (HALF,)),),))
        plain = plain_book(BOOK)
        self.assertEqual([[rule[0] for rule in cell] for cell in plain], [[ZERO] * 2, [ZERO], [ZERO] * 3])
        self.assertEqual(
            [[rule[1] for rule in cell] for cell in plain], [[rule[1] for rule in cell] for cell in BOOK])

    def test_chosen_book(self):
        self.assertEqual(chosen_book(BOOK, (1, 0, 0)), ((CONSTANT,), (CONSTANT,), (BOOK[2][0],)))
        self.assertEqual(chosen_book(BOOK, (0, 0, 2)), ((RULE,), (CONSTANT,), (CONSTANT,)))
        self.assertEqual(chosen_book(SINGLE, (0,)), SINGLE)

    def test_scaled_book(self):
        half = scaled_book(BOOK, HALF)
        self.assertEqual(half[0], ((HALF, (ZERO, ONE, (-1, 2))), CONSTANT))
        self.assertEqual(half[2][0], (ZERO, ((1, 4), ZERO, HALF)))
        self.assertEqual(scaled_book(SINGLE, (-2, 3)), (((ONE, ((-1, 3),)),),))
        self.assertEqual(scaled_book(SINGLE, ZERO), (((ONE, (ZERO,)),),))
        self.assertEqual(scaled_book(BOOK, ONE), BOOK)

    def test_with_errors(self):
        erring = with_errors(BOOK, (HALF, ZERO, THIRD))
        self.assertEqual(
            erring[0], ((ZERO, RULE[1]), (ONE, RULE[1]), ((-1, 6), CONSTANT[1]), ((5, 6), CONSTANT[1])))
        self.assertEqual(erring[1], (CONSTANT, CONSTANT))
        self.assertEqual([rule[0] for rule in erring[2]], [(-1, 3), THIRD, (1, 6), (5, 6), ZERO, (2, 3)])
        self.assertEqual(with_errors(SINGLE, (TWO,)), (((MINUS, (HALF,)), ((3, 1), (HALF,))),))

    def test_renumbered(self):
        self.assertEqual(renumbered(BOOK, (0, 1, 2)), BOOK)
        turned = renumbered(BOOK, (2, 0, 1))
        self.assertEqual(turned[0][0], (ZERO, (ONE, HALF, ZERO)))
        self.assertEqual(turned[1][0], (HALF, (MINUS, ZERO, TWO)))
        self.assertEqual([len(cell) for cell in turned], [3, 2, 1])
        self.assertEqual(renumbered(SINGLE, (0,)), SINGLE)

    def test_renumbered_gives_the_same_values_by_other_indexes(self):
        values = (HALF, (5, 1), (-7, 3))
        for order in permutations(range(3)):
            book = renumbered(BOOK, order)
            moved = tuple(values[cell] for cell in order)
            for at, cell in enumerate(order):
                self.assertEqual(
                    [value_by(rule, moved) for rule in book[at]], [value_by(rule, values) for rule in BOOK[cell]])

    def test_with_rule(self):
        self.assertEqual(with_rule(BOOK, 1, RULE), (BOOK[0], (CONSTANT, RULE), BOOK[2]))
        self.assertEqual(with_rule(BOOK, 0, RULE)[0], (RULE, CONSTANT, RULE))
        self.assertEqual(with_rule(BOOK, 2, CONSTANT), (BOOK[0], BOOK[1], BOOK[2] + (CONSTANT,)))
        self.assertEqual(with_rule(SINGLE, 0, (ZERO, (ZERO,))), ((SINGLE[0][0], (ZERO, (ZERO,))),))

    def test_without_rules(self):
        self.assertEqual(without_rules(BOOK, ()), BOOK)
        self.assertEqual(without_rules(BOOK, ((0, 0),)), ((CONSTANT,), BOOK[1], BOOK[2]))
        self.assertEqual(without_rules(BOOK, ((0, 1), (2, 0), (2, 2))), ((RULE,), BOOK[1], (RULE,)))

    def test_no_rule_with_the_least_cell(self):
        for book, bars, cell in [
                (SINGLE, ((0, 0),), 0), (BOOK, ((1, 0),), 1), (BOOK, ((1, 0), (2, 0), (2, 1), (2, 2)), 1),
                (BOOK, ((0, 0), (2, 0), (2, 1), (2, 2)), 2), (BOOK, ((0, 0), (0, 1), (1, 0)), 0)]:
            with self.assertRaises(NoRule) as caught:
                without_rules(book, bars)
            self.assertEqual(caught.exception.cell, cell)

    def test_without_reads(self):
        self.assertEqual(without_reads(BOOK, ()), BOOK)
        self.assertEqual(without_reads(BOOK, ((0, 0),)), BOOK)
        cut = without_reads(BOOK, ((0, 1), (2, 0), (2, 2)))
        self.assertEqual(cut[0], ((HALF, (ZERO, ZERO, MINUS)), CONSTANT))
        self.assertEqual(cut[1], BOOK[1])
        self.assertEqual(cut[2], ((ZERO, (ZERO, ZERO, ZERO)), (HALF, (ZERO, TWO, ZERO)), CONSTANT))
        self.assertEqual(without_reads(SINGLE, ((0, 0),)), (((ONE, (ZERO,)),),))

    def test_what_is_returned_is_a_book(self):
        books = [
            plain_book(BOOK), chosen_book(BOOK, (0, 0, 1)), scaled_book(BOOK, (4, 6 - 1)), renumbered(BOOK, (1, 2, 0)),
            with_errors(BOOK, (HALF, TWO, ZERO)), with_rule(BOOK, 0, RULE), without_rules(BOOK, ((2, 1),)),
            without_reads(BOOK, ((2, 0),))]
        self.assertEqual([is_book(book) for book in books], [True] * len(books))
