"""[46]: mends."""

import random
import unittest
from fractions import Fraction
from itertools import combinations

from onelate.books import with_errors
from onelate.heavylots import is_heavy_lot
from onelate.mends import heals, heavy_without, least_bars, least_holds, least_reads
from onelate.weights import weights_of
from tests.judge import HALF, ONE, TWO, ZERO, great_book, has_weights, is_heavy, make_book, some_books, some_factor

BOOK = (((ZERO, (ZERO, TWO)), (ZERO, (HALF, ZERO))), ((ONE, (ONE, ZERO)),))
MINUS = (-1, 1)
WORDS = ("reads", "bars", "holds")


def members(book, word):
    """The ascending list of all reads, bars or cells, by the words of [46]."""
    cells = range(len(book))
    if word == "reads":
        return [(cell, other) for cell in cells for other in cells if any(rule[1][other] != ZERO for rule in book[cell])]
    if word == "bars":
        return [(cell, rule) for cell in cells for rule in range(len(book[cell]))]
    return list(cells)


def left(book, word, lot):
    """The book without a lot, by the words; None if a cell would have no rule."""
    after = []
    for cell, rules in enumerate(book):
        if word == "reads":
            rules = tuple((told, tuple(ZERO if (cell, at) in lot else factor for at, factor in enumerate(factors)))
                          for told, factors in rules)
        elif word == "bars":
            rules = tuple(rule for at, rule in enumerate(rules) if (cell, at) not in lot)
        elif cell in lot:
            rules = tuple((told, (ZERO,) * len(book)) for told, _ in rules)
        after.append(rules)
    return None if () in after else tuple(after)


def all_least(book, word, most):
    """By going through all lots with at most so many members."""
    healing = []
    for many in range(most + 1):
        for lot in combinations(members(book, word), many):
            after = left(book, word, lot)
            if after is not None and not any(set(one) < set(lot) for one in healing) and has_weights(after):
                healing.append(lot)
    return sorted(healing)


def least(book, word, most):
    call = {"reads": least_reads, "bars": least_bars, "holds": least_holds}[word]
    return call(book, most)


class MendsTest(unittest.TestCase):
    def judged(self, book, most=3):
        kinds = []
        for word in WORDS:
            told = least(book, word, most)
            self.assertEqual(told, all_least(book, word, most), (book, word, most))
            self.assertIsInstance(told, list)
            kinds.append((word, max([len(lot) for lot in told], default=None)))
        return kinds

    def test_example(self):
        self.assertEqual(least_reads(BOOK, 2), [((0, 1),), ((1, 0),)])
        self.assertEqual(least_bars(BOOK, 1), [((0, 0),)])
        self.assertEqual(least_holds(BOOK, 3), [(0,), (1,)])
        self.judged(BOOK)

    def test_with_weights(self):
        for book in [(((ONE, (HALF,)),),), (((ONE, (ZERO,)),) * 3,), BOOK[:1] + (((ONE, ((1, 3), ZERO)),),)]:
            for most in range(4):
                for word in WORDS:
                    self.assertEqual(least(book, word, most), [()])
                    self.assertIs(heals(book, word, ()), True)
                    self.assertIsNone(heavy_without(book, word, ()))

    def test_none_with_so_few(self):
        book = tuple(((ONE, tuple(ONE if at == cell else ZERO for at in range(3))),) for cell in range(3))
        for most in (0, 1, 2):
            self.assertEqual([least(book, word, most) for word in WORDS], [[], [], []])
        self.assertEqual(least_reads(book, 3), [((0, 0), (1, 1), (2, 2))])
        self.assertEqual(least_holds(book, 3), [(0, 1, 2)])
        self.assertEqual(least_bars(book, 3), [])

    def test_most_from_0_on(self):
        """What is told for more has what is told for fewer."""
        for _, book in some_books(460, 30, 3):
            for word in WORDS:
                every = least(book, word, 3)
                for most in (0, 1, 2):
                    self.assertEqual(least(book, word, most), [lot for lot in every if len(lot) <= most])

    def test_no_other_lot_lies_in_one(self):
        """The read (0, 0) heals; so do (0, 1) and (1, 0) if it is left, but not beside it."""
        book = (((ZERO, (ONE, ONE)),), ((ZERO, (ONE, ZERO)),))
        self.assertEqual(least_reads(book, 3), [((0, 0), (0, 1)), ((0, 0), (1, 0))])
        self.assertEqual(least_holds(book, 3), [(0,)])
        self.judged(book)

    def test_bars_that_are_all_of_a_cell(self):
        """Each rule is heavy by itself: no lot of bars may have both."""
        book = (((ZERO, (ONE,)), (ZERO, (TWO,))),)
        self.assertEqual(least_bars(book, 3), [])
        self.assertEqual(least_bars((book[0] + ((ZERO, (HALF,)),),), 3), [((0, 0), (0, 1))])
        self.assertEqual(least_bars((book[0] + ((ZERO, (HALF,)),),), 1), [])
        self.assertEqual(least_reads(book, 1), [((0, 0),)])

    def test_rules_that_are_the_same(self):
        rule = (ZERO, (MINUS,))
        self.assertEqual(least_bars(((rule, (ONE, (HALF,)), rule),), 3), [((0, 0), (0, 2))])

    def test_the_order_of_tuples(self):
        """((0, 0), (1, 1)) stands ahead of ((0, 1),)."""
        book = (((ZERO, (HALF, HALF)),), ((ZERO, (HALF, HALF)),))
        self.assertEqual(least_reads(book, 1), [((0, 0),), ((0, 1),), ((1, 0),), ((1, 1),)])
        more = (((ZERO, ((9, 10), TWO)),), ((ZERO, ((2, 1), (9, 10))),))
        told = least_reads(more, 3)
        self.assertEqual(told, sorted(told))
        self.judged(more)

    def test_by_all_lots(self):
        seen = []
        for chance, book in some_books(46, 120, 3):
            seen.extend(self.judged(book, chance.randint(0, 3)))
        for word in WORDS:
            for many in (None, 0, 1, 2):
                if (word, many) != ("bars", None):
                    self.assertGreater(seen.count((word, many)), 2, (word, many))

    def test_four_cells(self):
        chance = random.Random(461)
        seen = []
        for _ in range(8):
            book = make_book(chance, 4, 2, some_factor(chance, Fraction(chance.randint(3, 8), 6)), 0.4)
            seen.extend(self.judged(book))
        self.assertIn(3, [many for _, many in seen])

    def test_the_list_is_new(self):
        for word in WORDS:
            for book in (BOOK, (((ONE, (HALF,)),),)):
                first = least(book, word, 2)
                least(book, word, 2).append(None)
                self.assertEqual(least(book, word, 2), first)


class HealsTest(unittest.TestCase):
    def judged(self, book, word, lot):
        after = left(book, word, lot)
        told = heals(book, word, lot)
        self.assertIs(told, has_weights(after), (book, word, lot))
        found = heavy_without(book, word, lot)
        self.assertEqual(found is None, told)
        if found is not None:
            self.assertTrue(is_heavy(after, found))
            self.assertIs(is_heavy_lot(after, found), True)
        return told

    def test_example(self):
        self.assertIs(heals(BOOK, "holds", (1,)), True)
        self.assertEqual(heavy_without(BOOK, "reads", ((0, 0),))[:2], ((0, 0), (0, 1)))

    def test_the_choice_goes_by_the_rules_left(self):
        """Of three rules the last two are heavy: without the first one they have other indexes."""
        book = (((ZERO, (HALF,)), (ZERO, (ONE,)), (ZERO, (TWO,))),)
        self.assertEqual(heavy_without(book, "bars", ())[0], (1,))
        self.assertEqual(heavy_without(book, "bars", ((0, 0),))[0], (0,))
        self.assertEqual(heavy_without(book, "bars", ((0, 1),))[0], (1,))
        self.assertEqual(heavy_without(book, "bars", ((0, 0), (0, 1)))[0], (0,))
        self.assertIsNone(heavy_without(book, "bars", ((0, 1), (0, 2))))

    def test_any_lot(self):
        """Least or not, of any number of members."""
        seen = []
        for chance, book in some_books(462, 120, 4):
            for word in WORDS:
                every = members(book, word)
                lot = tuple(sorted(chance.sample(every, chance.randint(0, len(every)))))
                if left(book, word, lot) is not None:
                    seen.append((word, self.judged(book, word, lot)))
        for word in WORDS:
            self.assertGreater(min(seen.count((word, True)), seen.count((word, False))), 10)

    def test_all_members(self):
        for _, book in some_books(463, 20, 4):
            for word in ("reads", "holds"):
                self.assertTrue(self.judged(book, word, tuple(members(book, word))))

    def test_more_heals_too(self):
        """What has a lot that heals in it heals."""
        for chance, book in some_books(464, 40, 3):
            for word in WORDS:
                every = members(book, word)
                for lot in least(book, word, 2) if every else ():
                    more = tuple(sorted(set(lot) | {chance.choice(every)}))
                    if left(book, word, more) is not None:
                        self.assertIs(heals(book, word, more), True)


class BoundsTest(unittest.TestCase):
    def judged(self, book):
        for word in WORDS:
            told = least(book, word, 3)
            self.assertEqual(told, sorted(told))
            for lot in told[:6] + told[-6:]:
                self.assertIs(heals(book, word, lot), True)
                for at in range(len(lot)):
                    self.assertIs(heals(book, word, lot[:at] + lot[at + 1:]), False)
            chance = random.Random(0)
            for _ in range(60):
                lot = tuple(sorted(chance.sample(members(book, word), chance.randint(0, 3))))
                if left(book, word, lot) is not None:
                    self.assertIs(
                        weights_of(left(book, word, lot)) is not None, any(set(one) <= set(lot) for one in told))

    def test_three_rules_a_cell(self):
        for seed, top in [(0, Fraction(2, 7)), (2, Fraction(2, 7)), (0, Fraction(1, 3)), (0, 1)]:
            self.judged(great_book(random.Random(seed), top))

    def test_one_rule_a_cell(self):
        for seed, top in [(1, Fraction(1, 3)), (0, Fraction(1, 2))]:
            self.judged(great_book(random.Random(seed), top, 1))

    def test_sparse(self):
        for seed in range(4):
            self.judged(great_book(random.Random(seed), 1, 3, 0.7))

    def test_six_rules_a_cell(self):
        self.judged(with_errors(great_book(random.Random(2), Fraction(2, 7)), (ONE,) * 6))
