"""[37]: reaches."""

import random
import unittest
from fractions import Fraction

from onelate.errors import Heavy
from onelate.heavylots import is_heavy_lot
from onelate.reaches import reach_of
from tests.judge import (
    HALF, ONE, TWO, ZERO, as_tuple, choices, has_weights, inner, light_parts, make_part, number, numbers, pieces_by)

PART = (1, (((ZERO, (ZERO, HALF, (1, 4))),), ((ONE, (HALF, ZERO, HALF)), (ZERO, (ZERO, ZERO, (-1, 1))))), (0,))
HEAVY = (1, (((ONE, (ONE, HALF)),),), (0,))


def by_choices(part, distances):
    """The reach as the greatest, over all choices, of what their pieces make of the distances."""
    told = []
    for choice in choices(part[1]):
        told.append([sum(item * number(one) for item, one in zip(row, distances)) for row in pieces_by(part, choice)])
    return tuple(as_tuple(max(of_cell)) for of_cell in zip(*told))


def keeps(part, distances, values):
    """Whether for each cell and rule the sum is at most the cell's value, by the words of [37]."""
    beside = numbers(distances)
    return all(
        sum(abs(number(factor)) * one for factor, one in zip(rule[1], values + beside)) <= values[at]
        for at, cell in enumerate(part[1]) for rule in cell)


class ReachTest(unittest.TestCase):
    def judged(self, part, distances):
        reach = reach_of(part, distances)
        self.assertEqual(reach, by_choices(part, distances), (part, distances))
        self.assertIsInstance(reach, tuple)
        values = numbers(reach)
        self.assertTrue(keeps(part, distances, values))
        for at, value in enumerate(values):
            if value > 0:
                self.assertFalse(keeps(part, distances, values[:at] + [value * Fraction(9999, 10000)] + values[at + 1:]))
        return reach

    def test_ordinary(self):
        self.assertEqual(self.judged(PART, ((4, 1),)), ((3, 1), (4, 1)))
        self.assertEqual(self.judged(PART, (HALF,)), ((3, 8), HALF))

    def test_distances_0(self):
        self.assertEqual(self.judged(PART, (ZERO,)), (ZERO, ZERO))
        two = (2, (((ONE, (HALF, ONE, TWO)),),), (0,))
        for distances, told in [((ZERO, ZERO), ZERO), ((ONE, ZERO), TWO), ((ZERO, ONE), (4, 1)), ((ONE, ONE), (6, 1))]:
            self.assertEqual(self.judged(two, distances), (told,))

    def test_no_inputs(self):
        self.assertEqual(self.judged((0, inner(PART), (1,)), ()), (ZERO, ZERO))

    def test_factors_below_0_and_told_numbers(self):
        part = (1, ((((99, 1), ((-1, 2), (-3, 1))), ((-5, 1), (HALF, ONE))),), ())
        self.assertEqual(self.judged(part, (ONE,)), ((6, 1),))

    def test_great_and_unlike_distances(self):
        distances = ((10 ** 6, 1), (1, 10 ** 4), (10 ** 40, 3))
        for _, part in light_parts(37, 20):
            self.judged(part, distances[:part[0]])

    def test_by_all_choices(self):
        for chance, part in light_parts(371, 150):
            self.judged(part, tuple(as_tuple(Fraction(chance.choice((0, 0, 1, 5, 30)), 7)) for _ in range(part[0])))

    def test_sums_and_greater_distances(self):
        """Distances twice as great come twice as far; where some are greater, no cell comes less far."""
        for chance, part in light_parts(372, 40):
            one = tuple(as_tuple(Fraction(chance.randint(0, 9), 4)) for _ in range(part[0]))
            more = tuple(as_tuple(number(item) + chance.randint(0, 2)) for item in one)
            twice = tuple(as_tuple(2 * number(item)) for item in one)
            self.assertEqual(numbers(reach_of(part, twice)), [2 * value for value in numbers(reach_of(part, one))])
            for least, most in zip(numbers(reach_of(part, one)), numbers(reach_of(part, more))):
                self.assertLessEqual(least, most)

    def test_heavy(self):
        with self.assertRaises(Heavy) as caught:
            reach_of(HEAVY, (ONE,))
        self.assertIs(is_heavy_lot(inner(HEAVY), caught.exception.found), True)
        chance = random.Random(373)
        seen = 0
        while seen < 30:
            part = make_part(chance, chance.randint(1, 3), 2, chance.randint(0, 3), None, 3)
            if not has_weights(inner(part)):
                seen += 1
                with self.assertRaises(Heavy) as caught:
                    reach_of(part, (ZERO,) * part[0])
                self.assertIs(is_heavy_lot(inner(part), caught.exception.found), True)

    def test_at_the_bounds(self):
        for seed in range(5):
            chance = random.Random(seed)
            part = make_part(chance, 4, 3, 3, (0, 1, 2, 3), Fraction(9, 10), 0)
            if has_weights(inner(part)):
                self.judged(part, ((10 ** 6, 9999), (1, 10 ** 4), (77, 5)))
