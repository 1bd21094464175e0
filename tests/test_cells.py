"""[26]: cells by themselves."""

import random
import unittest
from fractions import Fraction

from onelate.cells import apart_cells, heavy_with, is_leading, leading_steps, together_weights
from onelate.heavylots import is_heavy_lot
from tests.judge import (
    HALF, ONE, TWO, ZERO, are_weights, great_book, heavy_pairs, leads, make_book, make_fraction, odd_values,
    some_books, some_factor, spoiled)

PAIR = (((ZERO, ((-1, 1), ZERO, ZERO)),), ((ZERO, (HALF, HALF, ZERO)),), ((ZERO, (ZERO, ZERO, HALF)),))
FOUND = ((0, 0, 0), (0,), ((3, 1),))


def line(*lasts):
    """Each cell reads the next one; the last one has rules with these factors for itself."""
    many = 5
    rows = [
        ((ONE, tuple(HALF if other == at + 1 else ZERO for other in range(many))),) for at in range(many - 1)]
    return tuple(rows) + (tuple((ONE, (ZERO,) * (many - 1) + (last,)) for last in lasts),)


def come_to(book, cell):
    """The cell, and all cells that it comes to by reads of any rules."""
    known = {cell}
    while True:
        more = known.union(*[
            {other for other, factor in enumerate(rule[1]) if factor != ZERO} for one in known for rule in book[one]])
        if more == known:
            return known
        known = more


def steps_between(book, cell, goals):
    """The least number of reads by any rules from a cell to one of some cells, None if there is no way."""
    known = {cell}
    for many in range(len(book)):
        if any(one in goals for one in known):
            return many
        known = known.union(*[
            {other for other, factor in enumerate(rule[1]) if factor != ZERO} for one in known for rule in book[one]])
    return None


def book_of(book, cells):
    """The book of these cells alone."""
    return tuple(
        tuple((told, tuple(factors[other] for other in cells)) for told, factors in book[cell]) for cell in cells)


def is_way(book, cell, thing):
    """Whether a tuple of a heavy lot and steps of the right form is as is_leading asks, by the words."""
    (choice, lot, _), steps = thing
    if not is_heavy_lot(book, thing[0]) or (cell in lot) != (steps == ()):
        return False
    at = cell
    for reader, rule, read in steps:
        if reader != at or reader in lot or book[reader][rule][1][read] == ZERO:
            return False
        at = read
    readers = [step[0] for step in steps]
    led = leads(book, choice)
    return at in lot and len(set(readers)) == len(readers) and not any(
        reader in led[one] for reader in readers for one in lot)


class CellsTest(unittest.TestCase):
    def judged(self, book):
        """By going through all choices; returns the cells that do not come together."""
        heavy = {cell for _, lot in heavy_pairs(book) for cell in lot}
        lost = tuple(cell for cell in range(len(book)) if come_to(book, cell) & heavy)
        self.assertEqual(apart_cells(book), lost, book)
        self.together(book, lost)
        for cell in range(len(book)):
            found = heavy_with(book, cell)
            self.assertEqual(found is not None, cell in heavy, (book, cell))
            if found is not None:
                self.assertTrue(is_heavy_lot(book, found) and cell in found[1], (book, cell))
            self.leading(book, cell, heavy)
        return lost

    def together(self, book, lost):
        weights = together_weights(book)
        self.assertEqual([one is None for one in weights], [cell in lost for cell in range(len(book))])
        kept = [cell for cell in range(len(book)) if cell not in lost]
        self.assertTrue(kept == [] or are_weights(book_of(book, kept), [weights[cell] for cell in kept]))
        self.assertIsInstance(weights, tuple)

    def leading(self, book, cell, heavy):
        thing = leading_steps(book, cell)
        fewest = steps_between(book, cell, heavy)
        self.assertEqual(thing is None, fewest is None)
        if thing is not None:
            self.assertEqual(len(thing[1]), fewest)
            self.assertTrue(is_way(book, cell, thing), (book, cell, thing))
            self.assertIs(is_leading(book, cell, thing), True, (book, cell, thing))

    def test_ordinary(self):
        self.assertEqual(self.judged(PAIR), (0, 1))
        self.assertEqual(leading_steps(PAIR, 0)[1], ())
        self.assertEqual(leading_steps(PAIR, 1)[1], ((1, 0, 0),))
        self.assertIsNone(leading_steps(PAIR, 2))
        self.assertEqual(together_weights(PAIR)[:2], (None, None))

    def test_all_come_together(self):
        book = line(HALF)
        self.assertEqual(self.judged(book), ())
        self.assertTrue(are_weights(book, together_weights(book)))

    def test_none_come_together(self):
        book = line(ONE)
        self.assertEqual(self.judged(book), (0, 1, 2, 3, 4))
        self.assertEqual(together_weights(book), (None,) * 5)
        self.assertEqual([len(leading_steps(book, cell)[1]) for cell in range(5)], [4, 3, 2, 1, 0])
        self.assertEqual(leading_steps(book, 2)[1], ((2, 0, 3), (3, 0, 4)))

    def test_one_rule_of_several(self):
        self.assertEqual(self.judged(line(HALF, ZERO, TWO)), (0, 1, 2, 3, 4))
        self.assertEqual(leading_steps(line(HALF, ZERO, TWO), 4)[0][:2], ((0, 0, 0, 0, 2), (4,)))

    def test_reads_of_rules_that_the_lot_does_not_choose(self):
        """The cell 1 comes to a lot only by its second rule, and the lot only by the first of 0."""
        book = (((ZERO, (TWO, ZERO)), (ZERO, (ZERO, ZERO))), ((ZERO, (ZERO, HALF)), (ZERO, (HALF, ZERO))))
        self.assertEqual(self.judged(book), (0, 1))
        self.assertEqual(leading_steps(book, 1)[1], ((1, 1, 0),))

    def test_the_nearest_lot(self):
        """By the cells 1 or 2 to a lot; that of 4 is farther, as 3 is between."""
        book = (((ZERO, (ZERO, HALF, ZERO, ZERO, ZERO)), (ZERO, (ZERO, ZERO, HALF, ZERO, ZERO))),
                ((ZERO, (ZERO, ZERO, ZERO, ONE, ZERO)),), ((ZERO, (ZERO, ZERO, (-5, 4), ZERO, ZERO)),),
                ((ZERO, (ZERO, ZERO, ZERO, ZERO, ONE)),), ((ZERO, (ZERO, ZERO, ZERO, ZERO, ONE)),))
        self.assertEqual(self.judged(book), (0, 1, 2, 3, 4))
        self.assertEqual(leading_steps(book, 0)[1], ((0, 1, 2),))

    def test_a_lot_only_with_the_cell_itself(self):
        """0 is heavy by its first rule alone; with 1 it is in a lot by its second one, heavy or not."""
        for factor, steps in [((1, 4), ((1, 0, 0),)), (TWO, ()), ((4, 1), ())]:
            book = (((ZERO, (TWO, ZERO)), (ZERO, (ZERO, HALF))), ((ZERO, (factor, ZERO)),))
            self.judged(book)
            self.assertEqual(leading_steps(book, 1)[1], steps)

    def test_by_all_choices(self):
        told = [self.judged(book) for _, book in some_books(26, 150, 4)]
        self.assertGreater(min(told.count(()), len(told) - told.count(())), 30)
        chance = random.Random(261)
        kinds = []
        for _ in range(250):
            cells = chance.randint(2, 5)
            book = make_book(chance, cells, 2, some_factor(chance, Fraction(chance.randint(2, 5), 2)), 0.7)
            kinds.append(len(self.judged(book)) - cells)
        self.assertGreater(len([kind for kind in kinds if -len(kinds) < kind < 0]), 50)

    def test_at_the_bounds(self):
        for seed in range(8):
            chance = random.Random(seed)
            for top, rules, empty in [(Fraction(1, 7), 3, 0), (Fraction(2, 5), 3, 0.4), (1, 3, 0.8), (1, 6, 0.85)]:
                book = great_book(chance, top, rules, empty)
                lost = apart_cells(book)
                self.together(book, lost)
                for cell in range(6):
                    thing = leading_steps(book, cell)
                    self.assertEqual(thing is not None, cell in lost)
                    if thing is not None:
                        self.assertIs(is_leading(book, cell, thing), True)

    def test_many_rules_and_no_lot_with_the_cell(self):
        """The cells 4 and 5 are heavy only by rules that read no others; 0 to 3 read all, with six rules each."""
        low = [(ONE, tuple((1, 50 + rule) if other != 0 else ZERO for other in range(6))) for rule in range(6)]
        high = [(ONE, (ZERO,) * 4 + ((1, 2), (1, 2))), (ONE, ((1, 60),) * 6)]
        book = (tuple(low),) * 4 + (tuple(high),) * 2
        self.assertEqual(apart_cells(book), (0, 1, 2, 3, 4, 5))
        found, steps = leading_steps(book, 0)
        self.assertEqual((found[1], len(steps)), ((4, 5), 1))
        self.assertIsNone(heavy_with(book, 3))

    def test_sparse_books_of_six_cells(self):
        chance = random.Random(262)
        for _ in range(12):
            book = make_book(chance, 6, 2, some_factor(chance, Fraction(3, 2)), 0.75)
            self.judged(book)


class IsLeadingTest(unittest.TestCase):
    # 0 is the lot by its rule 1, by which it leads to 3; 1 reads 0, 2 and 3; 2 reads 1 and, by its rule 1, 0.
    book = (
        ((ONE, (ZERO, ZERO, ZERO, HALF)), (ONE, (TWO, ZERO, ZERO, (1, 3)))),
        ((ONE, (HALF, ZERO, HALF, HALF)),),
        ((ONE, (ZERO, HALF, ZERO, ZERO)), (ONE, (HALF, ZERO, ZERO, ZERO))),
        ((ONE, (ZERO, ZERO, ZERO, ZERO)), (ONE, ((1, 9), ZERO, ZERO, ZERO))))
    found = ((1, 0, 0, 0), (0,), (ONE,))

    def ask(self, told, cell, steps, found=None):
        self.assertIs(is_leading(self.book, cell, (found or self.found, steps)), told, (cell, steps))

    def test_what_is_one(self):
        self.ask(True, 0, ())
        self.ask(True, 1, ((1, 0, 0),))
        self.ask(True, 2, ((2, 1, 0),))

    def test_longer_steps(self):
        self.ask(True, 1, ((1, 0, 2), (2, 1, 0)))
        self.ask(True, 2, ((2, 0, 1), (1, 0, 0)))

    def test_steps_that_do_not_lead(self):
        for cell, steps in [
                (1, ()), (2, ()), (0, ((0, 1, 0),)), (0, ((0, 0, 3), (3, 1, 0))), (1, ((1, 0, 2),)),
                (1, ((2, 1, 0),)), (2, ((1, 0, 0),)), (1, ((1, 0, 2), (1, 0, 0))), (1, ((1, 0, 0), (2, 1, 0))),
                (2, ((2, 0, 1), (2, 1, 0))), (1, ((1, 0, 2), (2, 0, 1), (1, 0, 0))),
                (2, ((2, 0, 1), (1, 0, 2), (2, 1, 0))), (1, ((1, 0, 1),)), (1, ((1, 0, 1), (1, 0, 0))),
                (2, ((2, 0, 0),)), (2, ((2, 1, 1), (1, 0, 0))), (1, ((1, 1, 0),)), (1, ((1, -1, 0),)),
                (1, ((1, 0, 4),)), (1, ((1, 0, -4),)), (1, ((1, 0, 0), (0, 1, 0))), (3, ()), (1, ((1, 0),)),
                (1, ((1, 0, 0, 0),)), (1, (1, 0, 0)), (1, [(1, 0, 0)]), (1, ([1, 0, 0],)), (1, ((True, 0, 0),)),
                (1, ((1, False, 0),)), (1, ((1, 0, False),)), (1, ((1, 0, 0), None)), (1, None), (1, 0)]:
            self.ask(False, cell, steps)

    def test_a_cell_to_which_the_lot_leads(self):
        self.ask(False, 3, ((3, 1, 0),))
        self.ask(False, 1, ((1, 0, 3), (3, 1, 0)))
        closed = self.book[:1] + self.book[1:3] + ((self.book[3][0],) * 2,)
        self.assertIs(is_leading(closed, 1, (self.found, ((1, 0, 3), (3, 1, 0)))), False)
        alone = (((ONE, (TWO, ZERO)),), ((ONE, (HALF, ZERO)),))
        self.assertIs(is_leading(alone, 1, (((0, 0), (0,), (ONE,)), ((1, 0, 0),))), True)

    def test_the_lot_leads_by_the_choice_alone(self):
        """By the rule 0 the lot is none; what it reads by a rule that is not chosen means nothing."""
        book = (((ONE, (TWO, ZERO)), (ONE, (ZERO, HALF))), ((ONE, ((1, 9), ZERO)),))
        self.assertIs(is_leading(book, 1, (((0, 0), (0,), (ONE,)), ((1, 0, 0),))), True)

    def test_other_lots(self):
        for found in [((0, 0, 0, 0), (0,), (ONE,)), ((1, 0, 0, 0), (1,), (ONE,)), ((1, 0, 0, 0), (0,), (ZERO,)),
                      [(1, 0, 0, 0), (0,), (ONE,)], ((1, 0, 0, 0), (0,)), None, ()]:
            self.assertIs(is_leading(self.book, 1, (found, ((1, 0, 0),))), False)
        self.assertIs(is_leading(self.book, 1, [self.found, ((1, 0, 0),)]), False)
        self.assertIs(is_leading(self.book, 1, (self.found,)), False)
        self.assertIs(is_leading(self.book, 1, None), False)

    def test_any_values(self):
        for cell, steps in [(0, ()), (1, ((1, 0, 0),)), (1, ((1, 0, 2), (2, 1, 0)))]:
            for thing in odd_values():
                self.assertIs(is_leading(self.book, cell, thing), False)
                self.assertIs(is_leading(self.book, cell, (self.found, thing)), False)
            for thing in spoiled((self.found, steps)):
                self.assertIs(is_leading(self.book, cell, thing), False, thing)

    def test_a_cell_that_comes_together(self):
        for steps in [(), ((2, 0, 0),), ((2, 0, 2),), ((1, 0, 0),)]:
            self.assertIs(is_leading(PAIR, 2, (FOUND, steps)), False)

    def test_by_the_words(self):
        chance = random.Random(263)
        seen = []
        for _ in range(150):
            book = make_book(chance, 3, 2, lambda: make_fraction(chance, 3, 2), 0.5)
            found = next((found for found in map(lambda cell: heavy_with(book, cell), range(3)) if found), None)
            if found is None:
                continue
            steps = [
                (cell, rule, read) for cell in range(3) for rule in range(len(book[cell])) for read in range(3)
                if chance.random() < 0.8]
            for some in [()] + [(one,) for one in steps] + [(one, other) for one in steps for other in steps]:
                for cell in range(3):
                    told = is_leading(book, cell, (found, some))
                    self.assertIs(told, is_way(book, cell, (found, some)))
                    seen.append((told, len(some)))
        for many in (0, 1, 2):
            self.assertGreater(min(seen.count((True, many)), seen.count((False, many))), 5)
