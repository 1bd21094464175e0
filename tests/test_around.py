"""[41]: surroundings that part."""

import random
import unittest

from onelate.around import is_parting, parting_surroundings
from onelate.parts import is_surroundings, whole_book
from onelate.stands import stands_for, why_not
from onelate.weights import weights_of
from tests.judge import (
    HALF, ONE, TWO, ZERO, as_tuple, has_weights, inner, light_parts, make_part, make_surroundings, number, odd_values,
    spoiled, summed, whole_of)
from tests.test_pieces import bounds_part
from tests.test_stands import BOTH, EITHER, HEAVY, changed


class PartingTest(unittest.TestCase):
    def judged(self, one, other):
        around = parting_surroundings(one, other)
        self.assertEqual(around is None, stands_for(one, other))
        if around is not None:
            self.assertTrue(is_surroundings(one, around) and is_surroundings(other, around))
            self.assertEqual(around, self.told(one, other), (one, other))
            self.assertIsNotNone(weights_of(whole_book(other, around)))
            self.assertIsNone(weights_of(whole_book(one, around)))
            self.assertIs(is_parting(one, other, around), True)
            self.assertIs(is_parting(other, one, around), False)
        return around

    def told(self, one, other):
        """By the words of [41], of what why_not tells."""
        why, inputs, shown = why_not(one, other), one[0], len(one[2])
        many = max(inputs, 1)
        cells = []
        for at in range(many):
            row = [ZERO] * (many + shown)
            if why[0] == "piece":
                _, place, piece, distances = why
                row[many + place] = as_tuple(number(distances[at]) / summed(piece, distances))
            cells.append(((ZERO, tuple(row)),))
        return (shown, tuple(cells), tuple(range(inputs)))

    def test_example(self):
        around = self.judged(EITHER, BOTH)
        self.assertEqual(len(around[1]), 2)
        self.assertIsNone(self.judged(BOTH, EITHER))

    def test_inside(self):
        none = ((ZERO, (ZERO, ZERO, ZERO)),)
        self.assertEqual(self.judged(HEAVY, BOTH), (1, (none, none), (0, 1)))
        self.assertIsNone(self.judged(BOTH, HEAVY))

    def test_no_inputs(self):
        light, heavy = (0, (((ONE, (HALF,)),),), (0,)), (0, (((ONE, (ONE,)),),), (0,))
        self.assertEqual(self.judged(heavy, light), (1, (((ZERO, (ZERO, ZERO)),),), ()))
        self.assertIsNone(self.judged(light, heavy))

    def test_no_inputs_and_nothing_shown(self):
        light, heavy = (0, (((ONE, (HALF,)),),), ()), (0, (((ONE, (ONE,)),),), ())
        self.assertEqual(self.judged(heavy, light), (0, (((ZERO, (ZERO,)),),), ()))

    def test_nothing_shown(self):
        self.assertEqual(
            self.judged((2, HEAVY[1], ()), (2, BOTH[1], ())), (0, (((ZERO, (ZERO, ZERO)),),) * 2, (0, 1)))

    def test_an_input_that_means_nothing(self):
        """What parts is the input 1 alone: the cell 0 reads nothing."""
        one, other = [(2, (((ZERO, (ZERO, ONE, factor)),),), (0,)) for factor in (TWO, ONE)]
        around = self.judged(one, other)
        self.assertEqual(around[0], 1)
        self.assertIn(around[1][1][0][1][2], [HALF, (1, 3)])

    def test_the_place_that_is_read(self):
        one = (1, (((ZERO, (ZERO, ZERO, ONE)),), ((ZERO, (ZERO, ZERO, TWO)),)), (0, 1))
        other = (1, (((ZERO, (ZERO, ZERO, ONE)),), ((ZERO, (ZERO, ZERO, ONE)),)), (0, 1))
        self.assertEqual(self.judged(one, other), (2, (((ZERO, (ZERO, ZERO, HALF)),),), (0,)))

    def test_changed_parts(self):
        seen = []
        for chance, part in light_parts(41, 120):
            other = changed(chance, part)
            seen.extend([self.judged(part, other) is None, self.judged(other, part) is None])
        self.assertGreater(min(seen.count(True), seen.count(False)), 20)

    def test_by_all_choices(self):
        """The whole books judged apart from the program."""
        for chance, part in light_parts(411, 60, 2):
            other = changed(chance, part)
            for one, two in ((part, other), (other, part)):
                around = parting_surroundings(one, two)
                if around is not None:
                    self.assertFalse(has_weights(whole_of(one, around)))
                    self.assertTrue(has_weights(whole_of(two, around)))

    def test_at_the_bounds(self):
        _, part = bounds_part(5)
        _, other = bounds_part(7)
        for one, two in ((part, other), (other, part)):
            self.judged(one, two)


class IsPartingTest(unittest.TestCase):
    def test_by_the_words(self):
        seen = []
        for chance, part in light_parts(412, 80, 2):
            other = changed(chance, part)
            for _ in range(4):
                around = make_surroundings(chance, part, 2, 1)
                told = has_weights(whole_of(other, around)) and not has_weights(whole_of(part, around))
                self.assertIs(is_parting(part, other, around), told)
                seen.append(told)
        self.assertGreater(seen.count(True), 3)
        self.assertGreater(seen.count(False), 100)

    def test_of_both_or_neither(self):
        still = (1, (((ZERO, (ZERO,) * 3),),) * 2, (0, 1))
        great = (1, (((ZERO, (ZERO, ZERO, (9, 1))),),) * 2, (0, 1))
        for around in (still, great):
            self.assertTrue(is_surroundings(EITHER, around))
            self.assertIs(is_parting(EITHER, BOTH, around), False)
            self.assertIs(is_parting(BOTH, EITHER, around), False)

    def test_what_is_no_surroundings(self):
        for thing in [(2, (((ZERO, (ZERO,) * 4),),) * 2, (0, 1)), (1, (((ZERO, (ZERO,) * 3),),) * 2, (0,)), EITHER, ()]:
            self.assertIs(is_parting(EITHER, BOTH, thing), False)

    def test_any_values(self):
        good = parting_surroundings(EITHER, BOTH)
        for thing in odd_values():
            self.assertIs(is_parting(EITHER, BOTH, thing), False)
            self.assertIs(is_parting(HEAVY, BOTH, thing), False)
        for thing in spoiled(good):
            self.assertIs(is_parting(EITHER, BOTH, thing), False, thing)

    def test_other_surroundings_than_those_told(self):
        """More cells, told numbers, other rules: what the whole books say is all that is asked."""
        good = parting_surroundings(EITHER, BOTH)
        more = (1, tuple(
            (((5, 1), cell[0][1][:2] + (HALF,) + cell[0][1][2:]),) * 2 for cell in good[1]) + (((ONE, (HALF,) * 4),),),
            (0, 1))
        told = has_weights(whole_of(BOTH, more)) and not has_weights(whole_of(EITHER, more))
        self.assertIs(is_parting(EITHER, BOTH, more), told)
        loose = (1, tuple((((5, 1), cell[0][1]), (ZERO, (ZERO,) * 3)) for cell in good[1]), (0, 1))
        self.assertIs(is_parting(EITHER, BOTH, loose), True)

    def test_many_cells(self):
        """Surroundings of as many cells as any value can have."""
        rows = [tuple(HALF if other == (at + 1) % 16 else ZERO for other in range(17)) for at in range(16)]
        around = (1, tuple(((ONE, row),) for row in rows), (0, 1))
        self.assertIs(is_parting(HEAVY, BOTH, around), True)
        self.assertIs(is_parting(EITHER, BOTH, around), False)

    def test_light_and_heavy_inside(self):
        chance = random.Random(413)
        for _ in range(30):
            around = make_surroundings(chance, BOTH, 3)
            light = make_part(chance, 1, 1, 2, (0,))
            if has_weights(inner(light)):
                self.assertIs(is_parting(light, HEAVY, around), False)
                self.assertIs(is_parting(HEAVY, light, around), has_weights(whole_of(light, around)))
