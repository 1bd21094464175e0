"""[23], and [5]: heavy lots."""

import random
import unittest
from fractions import Fraction

from onelate.books import with_errors
from onelate.errors import Heavy
from onelate.heavylots import can_be_heavy, heavy_lot, is_heavy_lot, tied_lots
from onelate.weights import is_weights, weights_for, weights_of
from tests.judge import (
    HALF, ONE, TWO, ZERO, among, as_tuple, choices, great_book, has_weights, heavy_pairs, is_heavy, is_tied, lots,
    make_book, make_fraction, number, odd_values, shrinks, sizes, some_books, spoiled, tied)

TURN = (((ZERO, ((-1, 1), ZERO)),), ((ZERO, (HALF, ZERO)),))
PAIR = (((ZERO, (ZERO, TWO)), (ONE, (ZERO, ZERO))), ((ONE, ((-1, 2), ZERO)), (ONE, (HALF, ZERO))))
NONE = (ZERO, (ZERO, ZERO, ZERO))


class TiedLotsTest(unittest.TestCase):
    def test_several_lots(self):
        book = (((ONE, (HALF, ZERO, ZERO, ZERO)),), ((ZERO, (ONE, ZERO, TWO, ZERO)),),
                ((ZERO, (ZERO, HALF, ZERO, ZERO)),), ((ZERO, (ONE, ONE, ONE, ZERO)),))
        self.assertEqual(tied_lots(book, (0, 0, 0, 0)), [(0,), (1, 2)])

    def test_cells_that_lead_nowhere(self):
        self.assertEqual(tied_lots(((NONE,),) * 3, (0, 0, 0)), [])
        leads = ((NONE,), ((ZERO, (ONE, ZERO, ZERO)),), ((ZERO, (ONE, ONE, ZERO)),))
        self.assertEqual(tied_lots(leads, (0, 0, 0)), [])

    def test_cells_that_read_themselves(self):
        self.assertEqual(tied_lots((((ONE, (ONE,)), (ONE, (ZERO,))),), (0,)), [(0,)])
        self.assertEqual(tied_lots((((ONE, (ONE,)), (ONE, (ZERO,))),), (1,)), [])

    def test_each_choice_has_its_own(self):
        self.assertEqual([tied_lots(PAIR, choice) for choice in choices(PAIR)], [[(0, 1)], [(0, 1)], [], []])

    def test_lots_in_order(self):
        """(0, 2) stands ahead of (1,), as tuples do."""
        book = (((ONE, (ZERO, ZERO, ONE)),), ((ONE, (ZERO, ONE, ZERO)),), ((ONE, (ONE, ZERO, ZERO)),))
        self.assertEqual(tied_lots(book, (0, 0, 0)), [(0, 2), (1,)])

    def test_by_the_words(self):
        chance = random.Random(23)
        for _ in range(150):
            book = make_book(chance, chance.randint(1, 6), 2, lambda: make_fraction(chance, 9, 9), 0.75)
            for choice in choices(book)[:4]:
                self.assertEqual(tied_lots(book, choice), tied(book, choice))

    def test_the_list_is_new(self):
        tied_lots(PAIR, (0, 0)).append(None)
        self.assertEqual(tied_lots(PAIR, (0, 0)), [(0, 1)])


class CanBeHeavyTest(unittest.TestCase):
    def test_at_the_edge(self):
        for factor, told in [(ONE, True), ((-1, 1), True), (TWO, True), ((9999, 10000), False), ((-1, 2), False)]:
            self.assertIs(can_be_heavy((((ONE, (factor,)),),), (0,), (0,)), told)
        for factor, told in [(HALF, True), ((-1, 2), True), ((4999, 10000), False), ((5001, 10000), True)]:
            ring = (((ONE, (ZERO, TWO)),), ((ONE, (factor, ZERO)),))
            self.assertIs(can_be_heavy(ring, (0, 0), (0, 1)), told)

    def test_reads_of_other_cells_mean_nothing(self):
        book = (((ZERO, (HALF, TWO)),), ((ZERO, (ZERO, (1, 3))),))
        self.assertIs(can_be_heavy(book, (0, 0), (0,)), False)
        self.assertIs(can_be_heavy(book, (0, 0), (1,)), False)

    def test_by_the_words(self):
        seen = []
        for _, book in some_books(231, 120):
            for choice in choices(book)[:3]:
                for lot in tied(book, choice):
                    told = can_be_heavy(book, choice, lot)
                    self.assertIs(told, not shrinks(among(book, choice, lot)), (book, choice, lot))
                    seen.append(told)
        self.assertGreater(min(seen.count(True), seen.count(False)), 30)


class HeavyLotTest(unittest.TestCase):
    def judged(self, book):
        """The heavy lot, by going through all choices and lots in order."""
        found = heavy_lot(book)
        pairs = heavy_pairs(book)
        self.assertEqual(found is None, pairs == [], book)
        self.assertEqual(found is None, weights_of(book) is not None)
        if found is not None:
            self.assertEqual(found[:2], pairs[0], book)
            self.assertTrue(is_heavy(book, found))
            self.assertIs(is_heavy_lot(book, found), True)
            self.assertEqual(heavy_lot(book), found)
        return found

    def test_none(self):
        self.assertIsNone(self.judged((((ONE, (HALF,)),),)))
        self.assertIsNone(self.judged(((NONE,),) * 3))
        self.assertIsNone(self.judged((PAIR[0][1:], PAIR[1])))

    def test_the_least_choice(self):
        first = (((ZERO, (HALF, ZERO)), (ZERO, (TWO, ZERO))), ((ZERO, (ZERO, HALF)), (ZERO, (ZERO, ONE))))
        self.assertEqual(self.judged(first)[:2], ((0, 1), (1,)))
        late = (((ZERO, (HALF, ZERO)), (ZERO, (TWO, ZERO))), ((ZERO, (ZERO, HALF)), (ZERO, (ZERO, HALF))))
        self.assertEqual(self.judged(late)[:2], ((1, 0), (0,)))
        last = (((ZERO, (ZERO, HALF)), (ZERO, (ZERO, ONE))), ((ZERO, (HALF, ZERO)), (ZERO, (ONE, ZERO))))
        self.assertEqual(self.judged(last)[:2], ((1, 1), (0, 1)))

    def test_the_least_lot(self):
        both = (((ZERO, (ONE, ZERO)),), ((ZERO, (ONE, TWO)),))
        self.assertEqual(self.judged(both)[:2], ((0, 0), (0,)))
        three = (((ZERO, (ZERO, ZERO, ONE)),), ((ZERO, (ZERO, TWO, ZERO)),), ((ZERO, (ONE, ZERO, ZERO)),))
        self.assertEqual(self.judged(three)[:2], ((0, 0, 0), (0, 2)))
        light = (((ZERO, (HALF, ZERO, ZERO)),), ((ZERO, (ZERO, TWO, ZERO)),), ((ZERO, (ZERO, ZERO, ONE)),))
        self.assertEqual(self.judged(light)[:2], ((0, 0, 0), (1,)))

    def test_by_the_words(self):
        told = [self.judged(book) is None for _, book in some_books(232, 120, 4)]
        self.assertGreater(min(told.count(True), told.count(False)), 25)

    def test_at_the_bounds(self):
        for seed in range(3):
            chance = random.Random(seed)
            book = great_book(chance, Fraction(2, 5))
            self.assertIsNotNone(self.late(book))
            book = great_book(chance, Fraction(1, 2), 3, 0.5)
            self.late(book)
            self.late(with_errors(book, (ONE,) * 6))

    def late(self, book):
        """The heavy lot of a great book; each choice ahead of its own has none."""
        found = heavy_lot(book)
        self.assertEqual(found is None, weights_of(book) is not None)
        if found is not None:
            self.assertTrue(is_heavy(book, found))
            for choice in choices(book)[:200]:
                if choice >= found[0]:
                    break
                self.assertTrue(shrinks(sizes(book, choice)))
        return found

    def test_six_rules_each(self):
        """Only the last choice of all has one."""
        cell = tuple((ZERO, tuple(as_tuple(Fraction(rule + 5, 60)) for _ in range(6))) for rule in range(6))
        self.assertEqual(heavy_lot((cell,) * 6)[:2], ((5,) * 6, (0, 1, 2, 3, 4, 5)))

    def test_errors_tell_heavy_lots(self):
        for _, book in some_books(233, 40, 4):
            if heavy_lot(book) is not None:
                with self.assertRaises(Heavy) as caught:
                    weights_for(book, (ONE,) * len(book))
                self.assertIs(is_heavy_lot(book, caught.exception.found), True)


class IsHeavyLotTest(unittest.TestCase):
    def test_what_is_one(self):
        self.assertIs(is_heavy_lot(TURN, ((0, 0), (0,), ((7, 2),))), True)
        self.assertIs(is_heavy_lot(PAIR, ((0, 0), (0, 1), (TWO, ONE))), True)
        self.assertIs(is_heavy_lot(PAIR, ((0, 1), (0, 1), ((1, 9), (1, 18)))), True)

    def test_bulks_just_at_one(self):
        for bulk, told in [((TWO, ONE), True), (((19999, 10000), ONE), False), (((20001, 10000), ONE), False)]:
            self.assertIs(is_heavy_lot(PAIR, ((0, 0), (0, 1), bulk)), told)
        more = (((ZERO, (ONE, HALF)),), ((ZERO, (ONE, ZERO)),))
        self.assertIs(is_heavy_lot(more, ((0, 0), (0, 1), (ONE, ONE))), True)
        self.assertIs(is_heavy_lot(more, ((0, 0), (0, 1), (ONE, (10001, 10000)))), False)
        self.assertIs(is_heavy_lot(more, ((0, 0), (0, 1), (ONE, (1, 10000)))), True)

    def test_the_lot_alone_counts(self):
        book = (((ZERO, (HALF, TWO)),), ((ZERO, (ZERO, ONE)),))
        self.assertIs(is_heavy_lot(book, ((0, 0), (0,), (ONE,))), False)
        self.assertIs(is_heavy_lot(book, ((0, 0), (1,), (ONE,))), True)

    def test_what_is_none(self):
        good = ((0, 0), (0, 1), (TWO, ONE))
        for thing in [
                ((0, 0), (0, 1), ((4, 2), ONE)), ((0, 0), (0, 1), (TWO, ZERO)), ((0, 0), (0, 1), ((-2, 1), (-1, 1))),
                ((0, 0), (0, 1), (ZERO, ZERO)), ((0, 0), (0, 1), (TWO,)), ((0, 0), (0, 1), (TWO, ONE, ONE)),
                ((0, 0), (0,), (ONE,)), ((0, 0), (1,), (ONE,)), ((0, 0), (1, 0), (ONE, TWO)), ((0, 0), (), ()),
                ((0, 0), (0, 1, 2), (TWO, ONE, ONE)), ((1, 0), (0, 1), (TWO, ONE)), ((2, 0), (0, 1), (TWO, ONE)),
                ((0, 2), (0, 1), (TWO, ONE)), ((-1, 0), (0, 1), (TWO, ONE)), ((0,), (0, 1), (TWO, ONE)),
                ((0, 0, 0), (0, 1), (TWO, ONE)), [(0, 0), (0, 1), (TWO, ONE)], ([0, 0], (0, 1), (TWO, ONE)),
                ((0, 0), [0, 1], (TWO, ONE)), ((0, 0), (0, 1), [TWO, ONE]), ((0, 0), (0, 1), ([2, 1], ONE)),
                ((False, 0), (0, 1), (TWO, ONE)), ((0, 0), (0, True), (TWO, ONE)), ((0, 0), (0, 1), ((2, True), ONE)),
                ((0, 0), (0, 1)), ((0, 0), (0, 1), (2, 1)), (), good + (None,)]:
            self.assertIs(is_heavy_lot(PAIR, thing), False, thing)
        self.assertIs(is_heavy_lot(PAIR, good), True)

    def test_a_cell_could_be_added_or_is_not_tied(self):
        whole = (((ZERO, (ONE, ONE)),), ((ZERO, (ONE, ONE)),))
        self.assertIs(is_heavy_lot(whole, ((0, 0), (0,), (ONE,))), False)
        self.assertIs(is_heavy_lot(whole, ((0, 0), (0, 1), (ONE, ONE))), True)
        apart = (((ZERO, (ONE, ZERO)),), ((ZERO, (ZERO, ONE)),))
        self.assertIs(is_heavy_lot(apart, ((0, 0), (0, 1), (ONE, ONE))), False)
        leads = (((ZERO, (ZERO, TWO)),), ((ZERO, (ZERO, ZERO)),))
        self.assertIs(is_heavy_lot(leads, ((0, 0), (0,), (ONE,))), False)

    def test_any_values(self):
        for book, good in ((PAIR, ((0, 0), (0, 1), (TWO, ONE))), (TURN, ((0, 0), (0,), ((7, 2),)))):
            for thing in odd_values():
                self.assertIs(is_heavy_lot(book, thing), False, thing)
            for thing in spoiled(good):
                self.assertIs(is_heavy_lot(book, thing), False, thing)

    def test_by_the_words(self):
        seen = []
        for chance, book in some_books(234, 150, 3):
            for choice in choices(book)[:4]:
                for lot in lots(book):
                    bulk = tuple(as_tuple(Fraction(chance.randint(1, 4), 2)) for _ in lot)
                    told = is_heavy_lot(book, (choice, lot, bulk))
                    self.assertIs(told, is_heavy(book, (choice, lot, bulk)))
                    seen.append((told, is_tied(book, choice, lot)))
        self.assertGreater(min(seen.count((True, True)), seen.count((False, True)), seen.count((False, False))), 30)

    def test_one_of_weights_and_heavy_lots(self):
        """[5]: of each book just one of the two, whatever its numbers."""
        for factor in [(9999, 10000), (-9999, 10000), ONE, (-1, 1), (10001, 10000), (10 ** 6, 1), (1, 10 ** 4)]:
            book = (((ZERO, (ZERO, factor)), (ONE, (ZERO, ZERO))), ((ONE, (ONE, ZERO)),))
            weights, found = weights_of(book), heavy_lot(book)
            self.assertEqual((weights is None, found is None), (not has_weights(book), has_weights(book)))
            self.assertTrue(is_weights(book, weights) or is_heavy_lot(book, found))
            self.assertEqual(found is None, abs(number(factor)) < 1)
