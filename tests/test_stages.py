"""[18]: stages, as [7] tells them."""

import random
import unittest

from onelate.errors import NoTurn
from onelate.stages import pair_stages, stages_of
from tests.judge import HALF, ONE, ZERO, gone, make_book, make_fraction, make_row, make_start

CONSTANT, READS = (ONE, (ZERO, ZERO)), (ONE, (ZERO, HALF))
BOOK = ((READS, CONSTANT), ((ZERO, (HALF, HALF)), CONSTANT))


class StagesTest(unittest.TestCase):
    def test_an_empty_row(self):
        self.assertEqual([stages_of(BOOK, ()), pair_stages(BOOK, ())], [[], ((0, 0), (0, 0))])

    def test_rules_that_read_nothing(self):
        row = ((0, 1, (0, 0)), (0, 1, (0, 0)))
        self.assertEqual([stages_of(BOOK, row), pair_stages(BOOK, row)], [[None, None], ((None, None), (0, 0))])

    def test_values_without_a_stage(self):
        alone = ((1, 1, (0, 0)), (0, 0, (0, 0)), (1, 0, (0, 0)))
        self.assertEqual(stages_of(BOOK, alone), [None, None, None])
        self.assertEqual(pair_stages(BOOK, alone), ((None, 0), (None, None)))
        beside = ((0, 1, (0, 0)), (1, 0, (0, 0)), (1, 0, (0, 0)), (1, 0, (1, 0)))
        self.assertEqual(stages_of(BOOK, beside), [None, 1, 2, 1])

    def test_old_ages(self):
        row = ((1, 0, (0, 0)), (1, 0, (0, 0)), (0, 0, (0, 0)), (0, 0, (0, 1)), (0, 0, (0, 2)), (0, 0, (0, 3)),
               (1, 0, (1, 0)), (1, 0, (2, 0)), (1, 0, (3, 1)))
        self.assertEqual(stages_of(BOOK, row), [1, 1, 2, 2, 1, 1, 2, 3, 3])
        self.assertEqual(pair_stages(BOOK, row), ((1, 1), (3, 3)))

    def test_a_cell_that_reads_itself(self):
        own = (((ONE, (HALF,)),),)
        self.assertEqual(stages_of(own, ((0, 0, (0,)),) * 4), [1, 2, 3, 4])
        self.assertEqual(stages_of(own, ((0, 0, (1,)),) * 4), [1, 1, 2, 2])
        self.assertEqual(pair_stages(own, ((0, 0, (1,)),)), ((1, 0),))

    def test_by_the_words(self):
        chance = random.Random(7)
        for _ in range(80):
            book = make_book(chance, chance.randint(1, 5), 3, lambda: make_fraction(chance, 9, 9), 0.6)
            aged = make_row(chance, book, chance.randint(0, 20), chance.choice((1, 2, 9)))
            made, _, stages = gone(book, make_start(chance, book), aged)
            self.assertEqual(stages_of(book, aged), [stage for _, stage in made])
            self.assertEqual(pair_stages(book, aged), tuple((row[-1], row[-2]) for row in stages))

    def test_no_turn(self):
        fine = (1, 0, (1, 1))
        for aged, index in [(((0, 0, (0, 2)),), 0), ((fine, fine, (1, 0, (2, 0)), (0, 0, (0, 9))), 2)]:
            for call in (stages_of, pair_stages):
                with self.assertRaises(NoTurn) as caught:
                    call(BOOK, aged)
                self.assertEqual(caught.exception.index, index)
