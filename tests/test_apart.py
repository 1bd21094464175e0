"""[24]: rounds that keep apart."""

import random
import unittest
from itertools import permutations, product

from onelate.apart import apart_round, apart_start, is_apart_paper
from onelate.distances import distances
from onelate.forms import is_round, is_start
from onelate.heavylots import heavy_lot
from onelate.rows import as_aged
from tests.judge import (
    HALF, ONE, TWO, ZERO, as_ages, as_tuple, great_book, heavy_books, is_heavy, make_start, number, odd_values,
    plain_values, spoiled)

LESS = (-3, 5)
RING = (((ZERO, (ZERO, LESS, LESS)),), ((ZERO, (LESS, ZERO, LESS)),), ((ZERO, (LESS, LESS, ZERO)),))
WHOLE = ((0, 0, 0), (0, 1, 2), (ONE, ONE, ONE))
# The cell 0 is the lot and reads itself; 1 reads it, 2 is read by it.
BESIDE = (
    (((3, 1), (TWO, ZERO, ONE)), (ONE, (HALF, ZERO, ZERO))), ((ONE, (HALF, HALF, ZERO)),), ((TWO, (ZERO, ZERO, HALF)),))
ALONE = ((0, 0, 0), (0,), ((3, 1),))
START = (((3, 1), (-3, 1)), (ZERO, ZERO), (ZERO, ZERO))
ROUND = ((0, 0, (0,)), (1, 0, ()), (2, 0, ()))


def round_of(book, found, order, signs):
    """By the words of [24] in brackets: what is read has the sign opposite to that of the reader's newest value."""
    choice, lot, bulk = found
    pairs = {cell: (sign * number(share), -sign * number(share)) for cell, share, sign in zip(lot, bulk, signs)}
    turns = []
    for cell in order:
        late = []
        if cell in lot:
            factors = [number(factor) for factor in book[cell][choice[cell]][1]]
            newest = pairs[cell][0]
            late = [other for other in lot if factors[other] * pairs[other][0] * newest > 0]
            read = [factors[other] * pairs[other][other in late] for other in lot]
            assert all(value * newest <= 0 for value in read)
            pairs[cell] = (sum(read), newest)
        turns.append((cell, choice[cell], tuple(late)))
    return tuple(turns)


def is_paper(book, thing):
    """Whether a tuple of a heavy lot, a start and a row is an apart paper, by the words of [24]."""
    (choice, lot, bulk), start, row = thing
    if not is_heavy(book, thing[0]) or sorted(turn[0] for turn in row) != list(range(len(book))):
        return False
    for cell, (newest, ahead) in enumerate(start):
        if cell in lot:
            share = number(bulk[lot.index(cell)])
            if abs(number(newest)) < share or abs(number(ahead)) < share or newest[0] * ahead[0] > 0:
                return False
        elif (newest, ahead) != (ZERO, ZERO):
            return False
    for at, (cell, rule, late) in enumerate(row):
        if rule != choice[cell]:
            return False
        values = plain_values(book, start, row[:at])
        for other in lot if cell in lot else ():
            factor = number(book[cell][rule][1][other])
            read = values[other][-1 - (other in late)]
            if factor != 0 and factor * read * values[cell][-1] >= 0:
                return False
    return True


class ApartTest(unittest.TestCase):
    def test_starts(self):
        self.assertEqual(apart_start(RING, WHOLE, (1, -1, 1)), ((ONE, (-1, 1)), ((-1, 1), ONE), (ONE, (-1, 1))))
        self.assertEqual(apart_start(BESIDE, ALONE, (1,)), START)
        self.assertEqual(apart_start(BESIDE, ALONE, (-1,))[0], ((-3, 1), (3, 1)))
        third = ((0, 0, 0), (0, 2), ((2, 3), (7, 9)))
        self.assertEqual(
            apart_start(RING, third, (-1, 1)), (((-2, 3), (2, 3)), (ZERO, ZERO), ((7, 9), (-7, 9))))

    def test_rounds(self):
        self.assertEqual(apart_round(RING, WHOLE, (0, 1, 2), (1, 1, 1)), ((0, 0, ()), (1, 0, (0,)), (2, 0, (0, 1))))
        self.assertEqual(apart_round(RING, WHOLE, (2, 0, 1), (1, 1, 1)), ((2, 0, ()), (0, 0, (2,)), (1, 0, (0, 2))))
        self.assertEqual(apart_round(RING, WHOLE, (0, 1, 2), (1, -1, 1)), ((0, 0, (1,)), (1, 0, (2,)), (2, 0, (0,))))
        self.assertEqual(apart_round(BESIDE, ALONE, (0, 1, 2), (1,)), ROUND)
        self.assertEqual(apart_round(BESIDE, ALONE, (2, 1, 0), (-1,)), (ROUND[2], ROUND[1], ROUND[0]))

    def test_the_chosen_rules_are_meant(self):
        book = (((ONE, (ONE, ZERO)), (ZERO, ((-2, 1), ZERO))), ((ONE, (ONE, ONE)), (ONE, (ZERO, ZERO))))
        self.assertEqual(
            apart_round(book, ((1, 1), (0,), (ONE,)), (1, 0), (1,)), ((1, 1, ()), (0, 1, ())))
        self.assertEqual(
            apart_round(book, ((0, 0), (0,), (ONE,)), (1, 0), (1,)), ((1, 0, ()), (0, 0, (0,))))
        self.assertEqual(
            apart_round(book, ((1, 0), (1,), (ONE,)), (1, 0), (1,)), ((1, 0, (1,)), (0, 1, ())))

    def test_all_signs_and_orders(self):
        many = 0
        for chance, book, found in heavy_books(24, 120, 4):
            orders = list(permutations(range(len(book))))
            for order in chance.sample(orders, min(6, len(orders))):
                for signs in product((1, -1), repeat=len(found[1])):
                    many += 1
                    self.kept_apart(chance, book, found, order, signs)
        self.assertGreater(many, 500)

    def kept_apart(self, chance, book, found, order, signs):
        _, lot, bulk = found
        start, row = apart_start(book, found, signs), apart_round(book, found, order, signs)
        self.assertTrue(is_start(book, start) and is_round(book, row))
        self.assertEqual(row, round_of(book, found, order, signs))
        self.assertIs(is_apart_paper(book, (found, start, row)), True)
        self.assertTrue(is_paper(book, (found, start, row)))
        for rounds in (1, 4):
            values = plain_values(book, start, row * rounds)
            for cell, share, sign in zip(lot, bulk, signs):
                self.assertTrue(all(abs(value) >= number(share) for value in values[cell]))
                self.assertEqual(values[cell][-1] > 0, (sign > 0) == (rounds == 4))
        if chance.random() < 0.2:
            other = make_start(chance, book)
            one = tuple(
                tuple(as_tuple(number(mine) + number(yours)) for mine, yours in zip(*pairs))
                for pairs in zip(start, other))
            told = distances(book, one, other, as_aged(book, row * 4))
            for (cell, _, _), distance in zip(row * 4, told):
                if cell in lot:
                    self.assertGreaterEqual(number(distance), number(bulk[lot.index(cell)]))

    def test_at_the_bounds(self):
        for seed in range(5):
            book = great_book(random.Random(seed), 1)
            found = heavy_lot(book)
            signs = (1, -1) * 3
            start, row = apart_start(book, found, signs), apart_round(book, found, (5, 3, 1, 0, 2, 4), signs)
            self.assertIs(is_apart_paper(book, (found, start, row)), True)


class IsApartPaperTest(unittest.TestCase):
    def ask(self, told, found=ALONE, start=START, row=ROUND):
        self.assertIs(is_apart_paper(BESIDE, (found, start, row)), told, (found, start, row))

    def test_what_is_one(self):
        self.ask(True)
        self.ask(True, row=(ROUND[2], ROUND[0], ROUND[1]))
        self.ask(True, start=(((10, 3), (-4, 1)),) + START[1:])
        self.ask(True, start=(((-3, 1), (9, 1)),) + START[1:])
        self.ask(True, start=(((-3, 1), (3, 1)),) + START[1:])

    def test_late_reads_that_mean_nothing(self):
        """Cells beside the lot may be read late, and may read late."""
        self.ask(True, row=((0, 0, (0, 2)), (1, 0, (0, 1)), (2, 0, (2,))))
        self.ask(True, row=((0, 0, (0,)), (1, 0, (1,)), (2, 0, ())))

    def test_other_rounds(self):
        for row in [
                ROUND[:2], ROUND[1:], ROUND + ROUND[:1], ROUND + ROUND[2:], (), ROUND[:1] * 3,
                ((0, 1, (0,)),) + ROUND[1:], ((0, 0, ()),) + ROUND[1:], ((0, 0, (2,)),) + ROUND[1:], ROUND + ROUND,
                ((0, 1, ()),) + ROUND[1:], ((0, 0, (0, 1)),) + ROUND[1:], ((0, 0, (0, 1, 2)),) + ROUND[1:],
                ((0, 0, (0, 0)),) + ROUND[1:], list(ROUND), ROUND[:2] + ((2, 0, [2]),), ROUND[:2] + ((2, 1, ()),),
                ROUND[:2] + ((2, False, ()),), ROUND[:2] + ((2, 0, (True,)),), as_ages(BESIDE, ROUND), None]:
            self.ask(False, row=row)

    def test_other_starts(self):
        for pair in [((3, 1), (3, 1)), ((-3, 1), (-3, 1)), ((3, 1), ZERO), (ZERO, (3, 1)), (ZERO, ZERO),
                     ((29, 10), (-3, 1)), ((3, 1), (-29, 10)), ((6, 2), (-3, 1)), ((3, True), (-3, 1)),
                     ((3, 1),), ((3, 1), (-3, 1), ZERO), [(3, 1), (-3, 1)], (3, -3)]:
            self.ask(False, start=(pair,) + START[1:])
        for pair in [(ZERO, ONE), (ONE, ZERO), ((1, 10 ** 9), (-1, 10 ** 9)), ((0, 2), ZERO), (ZERO,), None]:
            self.ask(False, start=START[:1] + (pair,) + START[2:])
            self.ask(False, start=START[:2] + (pair,))
        self.ask(False, start=START[:2])
        self.ask(False, start=START + START[1:2])
        self.ask(False, start=list(START))

    def test_other_lots(self):
        for found in [((0, 0, 0), (0,), ((4, 1),)), ((1, 0, 0), (0,), ((3, 1),)), ((0, 0, 0), (0,), ((-3, 1),)),
                      ((0, 0, 0), (0, 1), ((3, 1), ONE)), ((0, 0, 0), (2,), (ONE,)), ((0, 0, 0), (0,), (3, 1)),
                      ((0, 0, 0), (0,)), [(0, 0, 0), (0,), ((3, 1),)], ((0, 0), (0,), ((3, 1),)), None]:
            self.ask(False, found=found)
        self.ask(True, found=((0, 0, 0), (0,), (TWO,)))

    def test_any_values(self):
        for thing in odd_values():
            self.assertIs(is_apart_paper(BESIDE, thing), False, thing)
        for thing in spoiled((ALONE, START, ROUND)):
            self.assertIs(is_apart_paper(BESIDE, thing), False, thing)
        self.assertIs(is_apart_paper(BESIDE, [ALONE, START, ROUND]), False)
        self.assertIs(is_apart_paper(BESIDE, (ALONE, START)), False)

    def test_each_other_late_of_the_lot(self):
        """In the ring all signs and orders make papers, and any other late in the lot unmakes them."""
        for signs in product((1, -1), repeat=3):
            start = apart_start(RING, WHOLE, signs)
            row = apart_round(RING, WHOLE, (1, 2, 0), signs)
            for at, (cell, rule, late) in enumerate(row):
                others = [other for other in range(3) if other != cell]
                for some in [(), (others[0],), (others[1],), tuple(others)]:
                    other = row[:at] + ((cell, rule, some),) + row[at + 1:]
                    self.assertIs(is_apart_paper(RING, (WHOLE, start, other)), some == late)

    def test_a_sign_is_turned_about_in_the_round(self):
        """Behind its turn a cell of the lot has another sign: late goes by the sign that it has by then."""
        both = (((ZERO, (ZERO, ONE)),), ((ZERO, (ONE, ZERO)),))
        found, start = ((0, 0), (0, 1), (ONE, ONE)), ((ONE, (-1, 1)), (ONE, (-1, 1)))
        self.assertIs(is_apart_paper(both, (found, start, ((0, 0, (1,)), (1, 0, ())))), True)
        self.assertIs(is_apart_paper(both, (found, start, ((0, 0, (1,)), (1, 0, (0,))))), False)
        self.assertIs(is_apart_paper(both, (found, start, ((1, 0, (0,)), (0, 0, ())))), True)
        self.assertIs(is_apart_paper(both, (found, start, ((1, 0, ()), (0, 0, (1,))))), False)

    def test_like_signs_of_a_cell_whose_ahead_value_is_not_read(self):
        both = (((ZERO, (ZERO, ONE)),), ((ZERO, (ONE, ZERO)),))
        found, row = ((0, 0), (0, 1), (ONE, ONE)), ((0, 0, (1,)), (1, 0, ()))
        for ahead, told in [((-1, 1), True), (ONE, False), (ZERO, False), ((-1, 2), False), ((-2, 1), True)]:
            self.assertIs(is_apart_paper(both, (found, ((ONE, ahead), (ONE, (-1, 1))), row)), told, ahead)

    def test_by_the_words(self):
        seen = []
        for chance, book, found in heavy_books(25, 150, 3):
            for _ in range(4):
                signs = tuple(chance.choice((1, -1)) for _ in found[1])
                order = chance.sample(range(len(book)), len(book))
                start = apart_start(book, found, tuple(chance.choice((1, -1)) for _ in found[1]))
                by = as_tuple(number((chance.randint(1, 6), 1)) / 3)
                start = tuple(
                    (as_tuple(number(newest) * number(by)), as_tuple(number(ahead) * chance.choice((1, 1, 1, -1))))
                    for newest, ahead in start)
                row = apart_round(book, found, tuple(order), signs)
                told = is_apart_paper(book, (found, start, row))
                self.assertIs(told, is_paper(book, (found, start, row)))
                seen.append(told)
        self.assertGreater(min(seen.count(True), seen.count(False)), 40)
