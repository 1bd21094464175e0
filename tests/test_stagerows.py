"""[34], and [7]: rows that keep a pace."""

import random
import unittest
from fractions import Fraction

from onelate.distances import distances
from onelate.forms import is_aged_row, is_start
from onelate.paces import pace_between, pace_side
from onelate.stagerows import stage_distances, stage_row, stage_starts
from onelate.stages import stages_of
from tests.judge import (
    HALF, ONE, TWO, ZERO, as_tuple, gone, great_book, is_heavy, leads, make_book, make_start, number, numbers,
    some_books, some_factor)
from tests.test_ever import can_be_done
from tests.test_paces import divided

BOOK, FOUND = (((ONE, ((-1, 2),)),),), ((0,), (0,), (ONE,))
# 0 and 2 are the lot; 1 is read by 2 and reads 4; 3 reads the lot, and is read by no one.
COMPANY = (
    ((ONE, (ZERO, ZERO, (-2, 1), ZERO, ZERO)), (ONE, (ZERO,) * 5)),
    ((TWO, (ZERO, HALF, ZERO, ZERO, (-1, 3))),),
    ((ONE, (HALF, (5, 1), (1, 4), ZERO, ZERO)),),
    ((ONE, (ONE, ONE, ZERO, ZERO, ZERO)),),
    ((ONE, (ZERO, ZERO, ZERO, ZERO, ZERO)),))
LOT = ((0, 0, 0, 0, 0), (0, 2), (TWO, ONE))


def rows_of(book, found, stages):
    """By the words of [34]: for each turn, the places of the values that are meant among all of the cell read."""
    choice, lot, _ = found
    led = leads(book, choice)
    company = sorted(set(lot).union(*[led[cell] for cell in lot]))
    pairs = {cell: (0, 1) for cell in range(len(book))}
    many = {cell: 2 for cell in range(len(book))}
    turns = []
    for _ in range(stages):
        made = {}
        for cell in company:
            for second in (False, True):
                ages = []
                for other, factor in enumerate(numbers(book[cell][choice[cell]][1])):
                    plus, minus = pairs[other]
                    if other not in lot:
                        place = minus
                    elif second:
                        place = minus if factor > 0 else plus
                    else:
                        place = plus if factor > 0 else minus
                    ages.append(0 if factor == 0 else many[other] - 1 - place)
                turns.append((cell, choice[cell], tuple(ages)))
                made.setdefault(cell, []).append(many[cell])
                many[cell] += 1
        pairs = {**pairs, **{cell: tuple(places) for cell, places in made.items()}}
    return tuple(turns)


class StageStartsTest(unittest.TestCase):
    def test_ordinary(self):
        self.assertEqual(stage_starts(BOOK, FOUND), (((ZERO, ZERO),), (((-1, 1), ONE),)))
        one, other = stage_starts(COMPANY, LOT)
        self.assertEqual(one, ((ZERO, ZERO),) * 5)
        self.assertEqual(other, (((-2, 1), TWO), (ZERO, ZERO), ((-1, 1), ONE), (ZERO, ZERO), (ZERO, ZERO)))

    def test_bulks_of_any_size(self):
        told = stage_starts(COMPANY, ((0,) * 5, (2,), ((2, 3),)))[1]
        self.assertEqual(told[2], ((-2, 3), (2, 3)))
        self.assertEqual(told[0], (ZERO, ZERO))


class StageRowTest(unittest.TestCase):
    def judged(self, book, found, stages):
        """The row by the words, and what the courses of both starts do by it."""
        row = stage_row(book, found, stages)
        self.assertEqual(row, rows_of(book, found, stages), (book, found))
        self.assertTrue(is_aged_row(book, row) and can_be_done(book, row))
        self.led(book, found, stages, row)
        return row

    def led(self, book, found, stages, row):
        one, other = stage_starts(book, found)
        self.assertTrue(is_start(book, one) and is_start(book, other))
        told = stage_distances(book, found, stages)
        self.assertEqual(len(told), stages + 1)
        _, lot, bulk = found
        far, at = distances(book, one, other, row), stages_of(book, row)
        seen = {cell: [] for cell in lot}
        for (cell, _, _), distance, stage in zip(row, far, at):
            if cell in lot:
                seen[cell].append(stage)
                self.assertEqual(distance, told[stage][cell])
            else:
                self.assertEqual(distance, ZERO)
        for cell in lot:
            self.assertEqual(seen[cell], [stage + 1 for stage in range(stages) for _ in range(2)])
        self.assertEqual(told[0], dict(zip(lot, bulk)))
        for per_stage in told:
            self.assertEqual(list(per_stage), list(lot))

    def test_ordinary(self):
        self.assertEqual(self.judged(BOOK, FOUND, 2), ((0, 0, (0,)), (0, 0, (2,)), (0, 0, (0,)), (0, 0, (2,))))
        self.assertEqual(self.judged(BOOK, FOUND, 0), ())
        self.assertEqual(stage_distances(BOOK, FOUND, 2), [{0: ONE}, {0: HALF}, {0: (1, 4)}])
        self.assertEqual(stage_distances(BOOK, FOUND, 0), [{0: ONE}])

    def test_a_factor_above_0(self):
        up = (((ONE, (HALF,)),),)
        self.assertEqual(self.judged(up, FOUND, 1), ((0, 0, (1,)), (0, 0, (1,))))

    def test_the_company(self):
        row = self.judged(COMPANY, LOT, 3)
        self.assertEqual([turn[0] for turn in row[:8]], [0, 0, 1, 1, 2, 2, 4, 4])
        self.assertEqual(row[0], (0, 0, (0, 0, 0, 0, 0)))
        self.assertEqual(row[1], (0, 0, (0, 0, 1, 0, 0)))
        self.assertEqual(row[2:4], ((1, 0, (0, 0, 0, 0, 0)), (1, 0, (0, 1, 0, 0, 0))))
        self.assertEqual(row[4:6], ((2, 0, (3, 2, 1, 0, 0)), (2, 0, (2, 2, 1, 0, 0))))
        self.assertEqual(row[8:], row[:8] * 2)
        self.assertEqual(stage_distances(COMPANY, LOT, 1), [{0: TWO, 2: ONE}, {0: TWO, 2: (5, 4)}])

    def test_the_chosen_rules_are_meant(self):
        book = (((ZERO, (ZERO, ZERO)), (ONE, (TWO, HALF))), ((ZERO, (ONE, ONE)), (ONE, (ZERO, ZERO))))
        row = self.judged(book, ((1, 1), (0,), (ONE,)), 1)
        self.assertEqual(row, ((0, 1, (1, 0)), (0, 1, (1, 0)), (1, 1, (0, 0)), (1, 1, (0, 0))))
        row = self.judged(book, ((0, 0), (1,), (ONE,)), 1)
        self.assertEqual(row, ((0, 0, (0, 0)), (0, 0, (0, 0)), (1, 0, (2, 1)), (1, 0, (2, 1))))

    def test_pace(self):
        """At stage s the distances are at least t ** s times the bulk."""
        many = 0
        for chance, book in some_books(34, 150, 4):
            t = as_tuple(Fraction(chance.randint(1, 6), 6))
            word, found = pace_side(book, t)
            if word == "weights":
                continue
            many += 1
            self.assertTrue(is_heavy(divided(book, t), found))
            self.judged(book, found, chance.randint(1, 4))
            for stage, per_stage in enumerate(stage_distances(book, found, 7)):
                for cell, share in zip(found[1], found[2]):
                    self.assertGreaterEqual(number(per_stage[cell]), number(t) ** stage * number(share))
        self.assertGreater(many, 50)

    def test_lots_with_cells_beside_them(self):
        chance = random.Random(341)
        many = 0
        for _ in range(150):
            book = make_book(chance, chance.randint(2, 6), 2, some_factor(chance, 2), 0.7)
            word, found = pace_side(book, (1, 2))
            if word == "heavy":
                many += len(found[1]) < len(book)
                self.judged(book, found, 3)
        self.assertGreater(many, 30)

    def test_other_starts_with_the_same_differences(self):
        for chance, book in some_books(342, 40, 3):
            word, found = pace_side(book, (1, 3))
            if word == "heavy":
                one = make_start(chance, book)
                other = tuple(
                    tuple(as_tuple(number(mine) + number(yours)) for mine, yours in zip(*pairs))
                    for pairs in zip(one, stage_starts(book, found)[1]))
                row = stage_row(book, found, 3)
                told = [
                    abs(number(mine[0]) - number(yours[0]))
                    for mine, yours in zip(gone(book, one, row)[0], gone(book, other, row)[0])]
                self.assertEqual(told, numbers(distances(book, *stage_starts(book, found), row)))

    def test_at_the_bounds(self):
        for seed in range(3):
            book = great_book(random.Random(seed), Fraction(1, 4))
            low, _ = pace_between(book, (1, 10 ** 4))
            word, found = pace_side(book, low)
            self.assertEqual(word, "heavy")
            row = stage_row(book, found, 33)
            self.assertLessEqual(len(row), 400)
            self.assertTrue(can_be_done(book, row))
            told = stage_distances(book, found, 33)
            for cell, share in zip(found[1], found[2]):
                self.assertGreaterEqual(number(told[33][cell]), number(low) ** 33 * number(share))
            self.judged(book, found, 3)

    def test_what_is_returned_is_new(self):
        told = stage_distances(BOOK, FOUND, 2)
        told[1][0] = None
        told.append(None)
        self.assertEqual(stage_distances(BOOK, FOUND, 2), [{0: ONE}, {0: HALF}, {0: (1, 4)}])
