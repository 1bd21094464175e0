"""[47]: damping."""

import random
import unittest
from fractions import Fraction

from onelate.books import scaled_book
from onelate.damping import damped_book, damping_of, is_stiff_lot, stiff_lot
from onelate.forms import is_fraction
from onelate.weights import is_weights, weights_of
from tests.judge import (
    HALF, ONE, TWO, ZERO, are_weights, as_tuple, choices, great_book, has_weights, lots, make_book, make_fraction,
    number, odd_values, some_books, some_factor, spoiled)

MINUS, BACK = (-1, 1), (((ONE, ((-3, 1),)),),)


def damped(book, q):
    """The book damped by a Fraction, by the words of [47]."""
    return tuple(
        tuple((as_tuple(q * number(told)), tuple(
            as_tuple(q * number(factor) + (1 - q if at == cell else 0)) for at, factor in enumerate(factors)))
            for told, factors in rules) for cell, rules in enumerate(book))


def leads_within(book, choice, lot):
    """Whether each cell of a lot leads to each other one by the chosen rules of cells of the lot."""
    for first in lot:
        known = {first}
        for _ in lot:
            known |= {at for cell in known for at in lot if book[cell][choice[cell]][1][at] != ZERO}
        if not known >= set(lot):
            return False
    return True


def is_stiff(book, thing):
    """Whether a tuple of the right form is a stiff lot, by the words of [47]."""
    choice, lot, bulk = thing
    if len(lot) > 1 and not leads_within(book, choice, lot):
        return False
    bulks = {cell: number(share) for cell, share in zip(lot, bulk)}
    for cell in lot:
        factors = book[cell][choice[cell]][1]
        pull = number(factors[cell]) * bulks[cell]
        pull += sum(abs(number(factors[at])) * bulks[at] for at in lot if at != cell)
        if pull < bulks[cell]:
            return False
    return True


class DampedBookTest(unittest.TestCase):
    def test_ordinary(self):
        self.assertEqual(damped_book(BACK, HALF), (((HALF, (MINUS,)),),))
        book = (((ONE, (ZERO, TWO)), (ZERO, (HALF, MINUS))), (((-3, 1), ((1, 3), ONE)),))
        self.assertEqual(damped_book(book, (1, 4)), (
            (((1, 4), ((3, 4), HALF)), (ZERO, ((7, 8), (-1, 4)))), (((-3, 4), ((1, 12), ONE)),)))

    def test_by_1_it_is_the_book(self):
        for _, book in some_books(470, 20):
            self.assertEqual(damped_book(book, ONE), book)

    def test_rule_by_rule(self):
        for chance, book in some_books(471, 80):
            q = Fraction(chance.randint(1, 20), 20)
            self.assertEqual(damped_book(book, as_tuple(q)), damped(book, q))


class DampingTest(unittest.TestCase):
    def judged(self, book):
        """Just one of both is None; each shows by itself that it is right."""
        told, stiff = damping_of(book), stiff_lot(book)
        self.assertEqual((told is None) + (stiff is None), 1, book)
        if told is not None:
            q, weights = told
            self.assertTrue(is_fraction(q) and 0 < number(q) <= 1)
            self.assertTrue(are_weights(damped(book, number(q)), weights), book)
            self.assertIs(is_weights(damped_book(book, q), weights), True)
        else:
            self.assertTrue(is_stiff(book, stiff), book)
            self.assertIs(is_stiff_lot(book, stiff), True)
            for q in (1, Fraction(1, 2), Fraction(1, 50), Fraction(1, 10 ** 9)):
                self.assertIsNone(weights_of(damped(book, q)))
        return told is not None

    def test_ordinary(self):
        self.assertTrue(self.judged(BACK))
        self.assertFalse(self.judged((((ZERO, (ONE,)),),)))
        self.assertFalse(self.judged((((ZERO, (TWO,)),),)))
        self.assertTrue(self.judged((((ZERO, ((9999, 10000),)),),)))
        self.assertTrue(self.judged((((ZERO, (ZERO,)),),)))

    def test_one_rule_of_several(self):
        self.assertFalse(self.judged((((ZERO, (HALF,)), (ONE, (MINUS,)), (TWO, ((5, 4),))),)))
        self.assertTrue(self.judged((((ZERO, (HALF,)), (ONE, (MINUS,)), (TWO, ((-9, 4),))),)))

    def test_own_factors_far_below_0(self):
        """They leave room for what is read of others, and ask for a small q."""
        for own, told in [((-10 ** 6, 1), True), ((-100, 1), True), ((-99, 1), False), ((-3, 1), False)]:
            book = (((ONE, (own, (100, 1))),), ((ONE, (ONE, ZERO)),))
            self.assertIs(self.judged(book), told, own)
        self.assertTrue(self.judged((((ONE, ((-10 ** 6, 1), ZERO)),), ((ONE, ((10 ** 6, 1), (1, 10 ** 4))),))))

    def test_weights_need_no_damping(self):
        seen = 0
        for _, book in some_books(472, 60, 4):
            if has_weights(book):
                seen += 1
                self.assertTrue(self.judged(book))
        self.assertGreater(seen, 15)

    def test_rings_just_at_1(self):
        for factor, told in [(HALF, False), ((-1, 2), False), ((4999, 10000), True), ((-4999, 10000), True)]:
            self.assertIs(self.judged((((ONE, (ZERO, TWO)),), ((ONE, (factor, ZERO)),))), told)
        # Own factors count with their signs: 2 by 1 less -1, and 1 by 1 less 1/2, make 2 together.
        for own, told in [(HALF, False), (ZERO, False), ((-1, 10 ** 4), True), (MINUS, True)]:
            self.assertIs(self.judged((((ONE, (MINUS, TWO)),), ((ONE, (ONE, own)),))), told, own)

    def test_by_the_words(self):
        chance, seen = random.Random(473), []
        for _ in range(300):
            cells = chance.randint(1, 4)
            top = Fraction(chance.randint(1, 8), 2) / cells
            book = make_book(chance, cells, 3, some_factor(chance, top), chance.choice((0.2, 0.6)))
            if chance.random() < 0.6:
                book = tuple(tuple((told, tuple(
                    as_tuple(-3 * abs(number(factor))) if at == cell else factor for at, factor in enumerate(factors)))
                    for told, factors in rules) for cell, rules in enumerate(book))
            seen.append((self.judged(book), has_weights(book)))
        for kind in [(True, True), (True, False), (False, False)]:
            self.assertGreater(seen.count(kind), 30)
        self.assertEqual(seen.count((False, True)), 0)

    def test_at_the_bounds(self):
        for seed in range(4):
            for top, rules in [(Fraction(1, 7), 3), (1, 3), (1, 6), (100, 3)]:
                book = great_book(random.Random(seed), top, rules)
                self.judged(book)
                self.judged(tuple(tuple((told, tuple(
                    (-10 ** 6, 7) if at == cell else factor for at, factor in enumerate(factors)))
                    for told, factors in rules_of) for cell, rules_of in enumerate(book)))

    def test_smaller_q_do_it_too(self):
        """[47]: the weights are such of the book damped by each smaller q as well."""
        for _, book in some_books(474, 40, 3):
            told = damping_of(book)
            if told is not None:
                for by in (Fraction(1, 2), Fraction(1, 7), Fraction(1, 999)):
                    self.assertTrue(are_weights(damped(book, number(told[0]) * by), told[1]))
            self.assertEqual(told, damping_of(scaled_book(book, ONE)))


class IsStiffLotTest(unittest.TestCase):
    # 0 reads itself below 0 and 1; 1 reads 0; 2 reads 0 and itself, 0 reads 2 by its second rule.
    book = (((ONE, (MINUS, TWO, ZERO)), (ONE, (ZERO, ZERO, (3, 1)))), ((ONE, (ONE, ZERO, ZERO)),),
            ((ONE, (HALF, ZERO, ONE)),))

    def ask(self, told, *thing):
        self.assertIs(is_stiff_lot(self.book, thing), told, thing)
        self.assertIs(is_stiff(self.book, thing), told, thing)

    def test_example(self):
        self.assertIs(is_stiff_lot((((ZERO, (ONE,)),),), ((0,), (0,), (TWO,))), True)
        self.assertIs(is_stiff_lot(BACK, ((0,), (0,), (ONE,))), False)

    def test_what_is_one(self):
        self.ask(True, (0, 0, 0), (0, 1), (ONE, ONE))
        self.ask(True, (0, 0, 0), (2,), ((7, 3),))
        self.ask(True, (1, 0, 0), (2,), (HALF,))
        self.ask(True, (1, 0, 0), (0, 2), (ONE, ONE))

    def test_just_too_small_and_just_great_enough(self):
        self.ask(False, (0, 0, 0), (0, 1), (ONE, (9999, 10000)))
        self.ask(False, (0, 0, 0), (0, 1), (ONE, (10001, 10000)))
        self.ask(True, (1, 0, 0), (0, 2), ((3, 1), ONE))
        self.ask(False, (1, 0, 0), (0, 2), ((30001, 10000), ONE))
        single = (((ONE, ((9999, 10000),)), (ONE, (ONE,))),)
        self.assertIs(is_stiff_lot(single, ((0,), (0,), (ONE,))), False)
        self.assertIs(is_stiff_lot(single, ((1,), (0,), (ONE,))), True)

    def test_other_cells_count_for_nothing(self):
        self.ask(False, (0, 0, 0), (0,), (ONE,))
        self.ask(False, (0, 0, 0), (1,), (ONE,))
        self.ask(False, (1, 0, 0), (0,), (ONE,))

    def test_cells_that_do_not_lead_to_one_another(self):
        self.ask(False, (0, 0, 0), (0, 1, 2), (ONE, ONE, ONE))
        self.ask(False, (0, 0, 0), (1, 2), (ONE, ONE))
        self.ask(False, (0, 0, 0), (0, 2), (ONE, ONE))
        apart = (((ONE, (ONE, ZERO)),), ((ONE, (ZERO, ONE)),))
        self.assertIs(is_stiff_lot(apart, ((0, 0), (0, 1), (ONE, ONE))), False)
        self.assertIs(is_stiff_lot(apart, ((0, 0), (1,), (ONE,))), True)

    def test_by_cells_of_the_lot_alone(self):
        """0 and 2 lead to each other only by 1, which is not in the lot."""
        ring = (((ONE, (ONE, ONE, ZERO)),), ((ONE, (ZERO, ZERO, ONE)),), ((ONE, (ONE, ZERO, ONE)),))
        self.assertIs(is_stiff_lot(ring, ((0, 0, 0), (0, 2), (ONE, ONE))), False)
        self.assertIs(is_stiff_lot(ring, ((0, 0, 0), (0, 1, 2), (ONE, ONE, ONE))), True)

    def test_a_cell_could_be_added(self):
        """Unlike a tied lot it may be a part of a greater one."""
        whole = (((ONE, (ONE, ONE)),), ((ONE, (ONE, ONE)),))
        for lot, bulk in [((0,), (ONE,)), ((1,), (HALF,)), ((0, 1), (ONE, TWO))]:
            self.assertIs(is_stiff_lot(whole, ((0, 0), lot, bulk)), True)

    def test_one_cell_that_reads_itself_not(self):
        self.assertIs(is_stiff_lot((((ONE, (ZERO,)),),), ((0,), (0,), (ONE,))), False)

    def test_what_is_none(self):
        for thing in [((0, 0, 0), (0, 1), (ONE, (2, 2))), ((0, 0, 0), (0, 1), (ONE, ZERO)), ((0, 0, 0), (0, 1), (ONE,)),
                      ((0, 0, 0), (0, 1), (ONE, ONE, ONE)), ((0, 0, 0), (1, 0), (ONE, ONE)), ((0, 0, 0), (), ()),
                      ((0, 0, 0), (2, 2), (ONE, ONE)), ((0, 0, 0), (3,), (ONE,)), ((2, 0, 0), (2,), (ONE,)), ((0, 0, 0), (2,), (ZERO,)),
                      ((0, 0), (2,), (ONE,)), ((0, 0, -1), (2,), (ONE,)), ((0, 0, False), (2,), (ONE,)),
                      ((0, 0, 0), (True,), (ONE,)), ((0, 0, 0), (2,), ((1, True),)), ((0, 0, 0), (2,), (MINUS,)),
                      ([0, 0, 0], (2,), (ONE,)), ((0, 0, 0), [2], (ONE,)), ((0, 0, 0), (2,), [ONE]),
                      [(0, 0, 0), (2,), (ONE,)], ((0, 0, 0), (2,)), ((0, 0, 0), (2,), (ONE,), ()), ()]:
            self.assertIs(is_stiff_lot(self.book, thing), False, thing)

    def test_any_values(self):
        good = ((0, 0, 0), (0, 1), (ONE, ONE))
        for thing in odd_values():
            self.assertIs(is_stiff_lot(self.book, thing), False)
            self.assertIs(is_stiff_lot(BACK, thing), False)
        for thing in spoiled(good):
            self.assertIs(is_stiff_lot(self.book, thing), False, thing)

    def test_by_the_words(self):
        chance, seen = random.Random(475), []
        for _ in range(150):
            book = make_book(chance, 3, 2, lambda: make_fraction(chance, 4, 2), 0.4)
            for choice in choices(book)[:4]:
                for lot in lots(book):
                    bulk = tuple(as_tuple(Fraction(chance.randint(1, 4), 2)) for _ in lot)
                    told = is_stiff_lot(book, (choice, lot, bulk))
                    self.assertIs(told, is_stiff(book, (choice, lot, bulk)))
                    seen.append((told, len(lot)))
        for many in (1, 2, 3):
            self.assertGreater(min(seen.count((True, many)), seen.count((False, many))), 20)
