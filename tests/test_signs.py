"""[43], and [9]: signs of cells and minus rings."""

import random
import unittest
from fractions import Fraction
from itertools import product

from onelate.heavylots import heavy_lot
from onelate.signs import is_minus_ring, minus_ring, signs_of
from tests.judge import (
    HALF, ONE, TWO, ZERO, great_book, make_book, make_fraction, number, odd_values, plain, some_factor, spoiled,
    value_of)

MINUS, F = (-1, 1), (-3, 5)
TRIPLE = (((ZERO, (ZERO, F, F)),), ((ZERO, (F, ZERO, F)),), ((ZERO, (F, F, ZERO)),))
RING = ((0, 0, 1), (1, 0, 2), (0, 0, 2))


def links(book):
    """The dict from the links of a book to whether they are MINUS."""
    return {
        (cell, rule, read): factor[0] < 0 for cell in range(len(book)) for rule, (_, factors) in enumerate(book[cell])
        for read, factor in enumerate(factors) if factor != ZERO}


def groups(book):
    """For each cell the least cell of its group."""
    least = list(range(len(book)))
    for _ in book:
        for cell, _, read in links(book):
            least[cell] = least[read] = min(least[cell], least[read])
    return least


def all_signs(book):
    """All tuples of signs by the words of [43], by going through all."""
    told = []
    for signs in product((1, -1), repeat=len(book)):
        if all((signs[cell] * signs[read] < 0) == minus for (cell, _, read), minus in links(book).items()):
            if all(sign == 1 for cell, sign in enumerate(signs) if groups(book)[cell] == cell):
                told.append(signs)
    return told


def fewest(book):
    """The least number of links of a minus ring, by steps over (cell, sign), None if there is none."""
    known = links(book)
    best = None
    for first in range(len(book)):
        at = {(first, 1)}
        for many in range(1, 2 * len(book) + 1):
            after = set()
            for cell, sign in at:
                for (one, _, other), minus in known.items():
                    for here, there in ((one, other), (other, one)):
                        if here == cell:
                            after.add((there, -sign if minus else sign))
            at = after
            if (first, -1) in at and (best is None or many < best):
                best = many
    return best


def is_ring(book, ring):
    """Whether a tuple of links is a minus ring, by the words, from either end of the first link."""
    known = links(book)
    if not ring or not all(link in known for link in ring) or sum(known[link] for link in ring) % 2 == 0:
        return False
    for first in (ring[0][0], ring[0][2]):
        at = first
        for cell, _, read in ring:
            at = read if at == cell else cell if at == read else None
        if at == first:
            return True
    return False


class SignsTest(unittest.TestCase):
    def judged(self, book):
        signs, ring, every = signs_of(book), minus_ring(book), all_signs(book)
        self.assertLessEqual(len(every), 1)
        self.assertEqual(signs, every[0] if every else None, book)
        self.assertEqual(ring is None, signs is not None)
        if ring is not None:
            self.assertTrue(is_ring(book, ring), (book, ring))
            self.assertEqual(len(ring), fewest(book), (book, ring))
            self.assertIs(is_minus_ring(book, ring), True)
        else:
            self.assertIsNone(fewest(book))
        return signs

    def test_ordinary(self):
        self.assertIsNone(self.judged(TRIPLE))
        self.assertEqual(len(minus_ring(TRIPLE)), 3)
        self.assertEqual(self.judged((((ZERO, (ZERO, (-2, 1))),), ((ZERO, ((-1, 8), ZERO)),))), (1, -1))
        self.assertEqual(self.judged((((ZERO, (ZERO, TWO)),), ((ZERO, (ONE, HALF)),))), (1, 1))

    def test_cells_that_read_themselves(self):
        self.assertEqual(self.judged((((ONE, (HALF,)), (ONE, (TWO,))),)), (1,))
        self.assertIsNone(self.judged((((ONE, (HALF,)), (ONE, (MINUS,))),)))
        self.assertEqual(minus_ring((((ONE, (HALF,)), (ONE, (MINUS,))),)), ((0, 1, 0),))
        self.assertEqual(self.judged((((ONE, (ZERO,)),),)), (1,))

    def test_several_groups(self):
        book = (((ZERO, (ZERO, ZERO, ZERO, MINUS)),), ((ZERO, (ZERO, ZERO, ONE, ZERO)),),
                ((ZERO, (ZERO, ZERO, ZERO, ZERO)),), ((ZERO, (ZERO,) * 4),))
        self.assertEqual(self.judged(book), (1, 1, 1, -1))
        book = (((ZERO, (ZERO,) * 4),), ((ZERO, (ZERO, ZERO, ZERO, MINUS)),), ((ZERO, (ZERO, ZERO, ZERO, ONE)),),
                ((ZERO, (ZERO,) * 4),))
        self.assertEqual(self.judged(book), (1, 1, -1, -1))

    def test_one_group_without_signs(self):
        book = (((ZERO, (ZERO, MINUS, ZERO)),), ((ZERO, (ZERO,) * 3),), ((ZERO, (ZERO, ZERO, F)),))
        self.assertIsNone(self.judged(book))
        self.assertEqual(minus_ring(book), ((2, 0, 2),))

    def test_rings_of_two_links(self):
        """One link above 0 and one below 0, either way about, or by two rules of one cell."""
        for one, other in [(ONE, MINUS), (MINUS, ONE)]:
            book = (((ZERO, (ZERO, one)),), ((ZERO, (other, ZERO)),))
            self.assertIsNone(self.judged(book))
            self.assertEqual(len(minus_ring(book)), 2)
        book = (((ZERO, (ZERO, HALF)), (ZERO, (ZERO, F))), ((ZERO, (ZERO, ZERO)),))
        self.assertIsNone(self.judged(book))
        self.assertEqual(len(minus_ring(book)), 2)

    def test_links_gone_against_their_reads(self):
        """0 reads 1 and 2, 1 reads 2: no cell leads back, but links join them in a ring."""
        book = (((ZERO, (ZERO, ONE, MINUS)),), ((ZERO, (ZERO, ZERO, ONE)),), ((ZERO, (ZERO,) * 3),))
        self.assertIsNone(self.judged(book))
        self.assertEqual(len(minus_ring(book)), 3)

    def test_long_rings(self):
        for many in range(3, 7):
            for below in range(many + 1):
                book = tuple(
                    ((ZERO, tuple((MINUS if at < below else ONE) if other == (at + 1) % many else ZERO
                                  for other in range(many))),) for at in range(many))
                self.judged(book)
                self.assertEqual(minus_ring(book) is None, below % 2 == 0)
                if below % 2 == 1:
                    self.assertEqual(len(minus_ring(book)), many)

    def test_a_shorter_ring_aside(self):
        """A ring of two links beside one of four, and one that is come to only by others."""
        book = (((ZERO, (ZERO, ONE, ZERO, ZERO)),), ((ZERO, (ZERO, ZERO, ONE, ZERO)),),
                ((ZERO, (ZERO, ZERO, ZERO, ONE)),), ((ZERO, (MINUS, ZERO, ZERO, ZERO)), (ZERO, (ZERO, ZERO, F, ZERO))))
        self.assertIsNone(self.judged(book))
        self.assertEqual(len(minus_ring(book)), 2)

    def test_by_all_signs(self):
        chance, seen = random.Random(43), []
        for _ in range(400):
            cells = chance.randint(1, 5)
            empty = chance.choice((0.5, 0.8, 0.9))
            seen.append(self.judged(make_book(chance, cells, 2, lambda: make_fraction(chance, 9, 9), empty)))
        self.assertGreater(min(seen.count(None), len(seen) - seen.count(None)), 100)
        self.assertGreater(len([signs for signs in seen if signs is not None and -1 in signs]), 50)

    def test_made_from_signs(self):
        """Factors turned about by signs give these signs again."""
        chance = random.Random(431)
        for _ in range(60):
            signs = [chance.choice((1, -1)) for _ in range(6)]
            book = make_book(chance, 6, 3, some_factor(chance, 1), 0.4)
            book = tuple(tuple((told, tuple(
                (abs(factor[0]) * signs[cell] * signs[at], factor[1]) for at, factor in enumerate(factors)))
                for told, factors in rules) for cell, rules in enumerate(book))
            told = self.judged(book)
            self.assertIsNotNone(told)
            if groups(book) == [0] * 6:
                self.assertEqual(told, tuple(sign * signs[0] for sign in signs))

    def test_no_prompt_turn_brings_the_lot_below(self):
        """[43]: with signs and a heavy lot, from the bulks with these signs, by prompt turns of the lot's choice."""
        chance, seen = random.Random(432), 0
        while seen < 40:
            book = make_book(chance, chance.randint(1, 4), 2, lambda: make_fraction(chance, 9, 5), 0.6)
            signs, found = signs_of(book), heavy_lot(book)
            if signs is None or found is None:
                continue
            seen += 1
            choice, lot, bulk = found
            values = [Fraction(0)] * len(book)
            for cell, share in zip(lot, bulk):
                values[cell] = number(share) * signs[cell]
            for _ in range(30):
                cell = chance.randrange(len(book))
                values[cell] = value_of(plain(book)[cell][choice[cell]], values)
                for one, share in zip(lot, bulk):
                    self.assertGreaterEqual(values[one] * signs[one], number(share))

    def test_at_the_bounds(self):
        for seed in range(4):
            for top, rules, empty in [(1, 3, 0), (1, 3, 0.7), (1, 6, 0.95), (1, 1, 0.8)]:
                self.judged(great_book(random.Random(seed), top, rules, empty))


class IsMinusRingTest(unittest.TestCase):
    # 0 reads 1 and itself, below 0; 1 reads 2; 2 reads 0, by a second rule below 0.
    book = (((ZERO, (F, MINUS, ZERO)),), ((ONE, (ZERO, ZERO, HALF)),), ((ONE, (ONE, ZERO, ZERO)), (ONE, (F, ZERO, ZERO))))

    def ask(self, told, *ring):
        self.assertIs(is_minus_ring(self.book, ring), told, ring)
        self.assertIs(is_ring(self.book, ring), told, ring)

    def test_what_is_one(self):
        self.ask(True, (0, 0, 0))
        self.ask(True, (0, 0, 1), (1, 0, 2), (2, 0, 0))
        self.ask(True, (2, 0, 0), (1, 0, 2), (0, 0, 1))
        self.ask(True, (2, 0, 0), (2, 1, 0))
        self.ask(True, (2, 1, 0), (2, 0, 0))

    def test_links_gone_more_than_once(self):
        self.ask(True, (0, 0, 0), (0, 0, 0), (0, 0, 0))
        self.ask(True, (0, 0, 1), (0, 0, 1), (0, 0, 0))
        self.ask(True, (0, 0, 1), (0, 0, 0), (0, 0, 1))
        self.ask(True, (0, 0, 0), (0, 0, 1), (0, 0, 1), (0, 0, 0), (0, 0, 0))
        self.ask(True, (1, 0, 2), (1, 0, 2), (1, 0, 2), (2, 0, 0), (0, 0, 1))

    def test_even_numbers(self):
        self.ask(False, (0, 0, 0), (0, 0, 0))
        self.ask(False, (0, 0, 1), (0, 0, 1))
        self.ask(False, (0, 0, 1), (1, 0, 2), (2, 1, 0))
        self.ask(False, (1, 0, 2), (1, 0, 2))
        self.ask(False)

    def test_links_that_do_not_lead_on(self):
        self.ask(False, (0, 0, 1))
        self.ask(False, (0, 0, 1), (2, 0, 0))
        self.ask(False, (0, 0, 1), (2, 0, 0), (1, 0, 2), (1, 0, 2))
        self.ask(False, (0, 0, 0), (1, 0, 2))
        self.ask(False, (0, 0, 0), (1, 0, 2), (1, 0, 2))
        self.ask(False, (1, 0, 2), (0, 0, 0), (1, 0, 2))

    def test_which_end_comes_first(self):
        """The first link may be gone from either of its two cells."""
        self.ask(True, (0, 0, 1), (0, 0, 0), (0, 0, 1))
        self.ask(False, (0, 0, 1), (0, 0, 1), (0, 0, 1), (0, 0, 0), (0, 0, 1), (0, 0, 0))
        self.ask(True, (2, 0, 0), (0, 0, 0), (2, 0, 0))

    def test_links_that_are_none(self):
        for link in [(0, 0, 2), (1, 0, 0), (0, 1, 1), (0, -1, 1), (3, 0, 0), (-1, 0, 0), (0, 0, 3), (0, 0, -2), (0, 0),
                     (0, 0, 1, 0), [0, 0, 0], (False, 0, 0), (0, False, 0), (0, 0, False), (True, 0, 2), None, 0, ()]:
            self.assertIs(is_minus_ring(self.book, (link,)), False, link)
            self.assertIs(is_minus_ring(self.book, ((0, 0, 0), link)), False, link)
            self.assertIs(is_minus_ring(self.book, ((0, 0, 0), link, link)), False, link)
        self.assertIs(is_minus_ring(self.book, [(0, 0, 0)]), False)
        self.assertIs(is_minus_ring(self.book, (0, 0, 0)), False)

    def test_any_values(self):
        for thing in odd_values():
            self.assertIs(is_minus_ring(TRIPLE, thing), False)
        for thing in spoiled(RING):
            self.assertIs(is_minus_ring(TRIPLE, thing), False, thing)
        self.assertIs(is_minus_ring(TRIPLE, ((0, 0, 1),) * 901), False)

    def test_by_the_words(self):
        chance, seen = random.Random(433), []
        for _ in range(60):
            book = make_book(chance, 3, 2, lambda: make_fraction(chance, 3, 2), 0.6)
            known = sorted(links(book))
            for _ in range(60 if known else 0):
                ring = tuple(chance.choice(known) for _ in range(chance.randint(0, 4)))
                told = is_minus_ring(book, ring)
                self.assertIs(told, is_ring(book, ring))
                seen.append((told, len(ring)))
        for many in (1, 2, 3, 4):
            self.assertGreater(min(seen.count((True, many)), seen.count((False, many))), 10)
