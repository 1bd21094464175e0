"""[40], and [8]: which part may stand for which."""

import random
import unittest

from onelate.flat import flat_part, form_of
from onelate.heavylots import is_heavy_lot
from onelate.pieces import least_pieces, shares_of
from onelate.stands import are_alike, stands_for, why_not
from tests.judge import (
    HALF, ONE, TWO, ZERO, as_tuple, has_weights, inner, is_mixed, is_parted, light_parts, make_part, make_surroundings,
    number, whole_of)
from tests.test_pieces import bounds_part

BOTH = (2, (((ZERO, (ZERO, HALF, HALF)),),), (0,))
EITHER = (2, (((ZERO, (ZERO, ONE, ZERO)), (ZERO, (ZERO, ZERO, (-1, 1)))),), (0,))
HEAVY = (2, (((ZERO, (ONE, ZERO, ZERO)),),), (0,))


def one_cell(*rows):
    return (2, (tuple((ZERO, (ZERO,) + row) for row in rows),), (0,))


def changed(chance, part):
    """The part with a rule out, twice, smaller, greater or exchanged for a mixture."""
    inputs, cells, shown = part
    at = chance.randrange(len(cells))
    cell = list(cells[at])
    rule = chance.randrange(len(cell))
    told, factors = cell[rule]
    by = chance.choice((HALF, (9999, 10000), (3, 2), TWO))
    scaled = tuple(as_tuple(number(factor) * number(by)) for factor in factors)
    deed = chance.randrange(4)
    if deed == 0 and len(cell) > 1:
        del cell[rule]
    elif deed == 1:
        cell.append((ONE, tuple(as_tuple(-number(factor)) for factor in factors)))
    elif deed == 2:
        cell[rule] = (told, scaled)
    else:
        other = cell[chance.randrange(len(cell))][1]
        mixed = [(abs(number(one)) + abs(number(two))) / 2 for one, two in zip(factors, other)]
        cell.append((ZERO, tuple(as_tuple(item) for item in mixed)))
    return (inputs, cells[:at] + (tuple(cell),) + cells[at + 1:], shown)


class StandsTest(unittest.TestCase):
    def judged(self, one, other):
        """What is told of both, either way about, by the words of [40]."""
        told = stands_for(one, other)
        why = why_not(one, other)
        self.assertIs(told, why is None)
        light = [has_weights(inner(part)) for part in (one, other)]
        if not light[1]:
            self.assertIs(told, True)
        elif not light[0]:
            self.assertEqual(why[0], "inside")
            self.assertEqual(len(why), 2)
            self.assertIs(is_heavy_lot(inner(one), why[1]), True)
        else:
            self.by_pieces(one, other, why)
        self.assertIs(are_alike(one, other), told and stands_for(other, one))
        if all(light):
            self.assertIs(are_alike(one, other), form_of(one) == form_of(other))
        else:
            self.assertIs(are_alike(one, other), light == [False, False])
        return told

    def by_pieces(self, one, other, why):
        for place, (mine, yours) in enumerate(zip(one[2], other[2])):
            least = least_pieces(other, yours)
            for piece in least_pieces(one, mine):
                if why is not None and why[1:3] == (place, piece):
                    self.assertEqual((why[0], len(why)), ("piece", 4))
                    self.assertTrue(is_parted(piece, least, why[3]), (one, other))
                    return
                self.assertTrue(is_mixed(piece, least, shares_of(piece, least)), (one, other))
        self.assertIsNone(why)

    def test_example(self):
        self.assertTrue(self.judged(BOTH, EITHER))
        self.assertFalse(self.judged(EITHER, BOTH))
        self.assertEqual(why_not(EITHER, BOTH)[:3], ("piece", 0, (ZERO, ONE)))

    def test_to_itself_and_to_its_flat_part(self):
        for _, part in light_parts(40, 80):
            self.assertTrue(self.judged(part, part))
            self.assertIs(are_alike(part, part), True)
            if part[2]:
                self.assertIs(are_alike(part, flat_part(part)), True)
                self.assertIs(are_alike(flat_part(part), part), True)
        self.assertTrue(self.judged(HEAVY, HEAVY))

    def test_heavy_inner_books(self):
        self.assertTrue(self.judged(BOTH, HEAVY))
        self.assertFalse(self.judged(HEAVY, BOTH))
        self.assertEqual(why_not(HEAVY, BOTH)[:1] + why_not(HEAVY, BOTH)[1][:2], ("inside", (0,), (0,)))
        other = (2, HEAVY[1] + (((ZERO, (ZERO,) * 3),),), (1,))
        other = (2, (((ZERO, (TWO, ZERO, ZERO, ZERO)),), ((ONE, (ZERO, ZERO, ONE, ONE)),)), (1,))
        self.assertTrue(self.judged(other, HEAVY))
        self.assertTrue(self.judged(HEAVY, other))
        self.assertIs(are_alike(HEAVY, other), True)

    def test_smaller_and_greater(self):
        for one, other, told in [
                (one_cell((HALF, HALF)), one_cell((HALF, ONE)), True), (one_cell((HALF, ONE)), one_cell((ONE, HALF)), False),
                (one_cell((ZERO, ZERO)), one_cell((ZERO, ZERO)), True), (one_cell((ZERO, (1, 10 ** 4))),
                                                                         one_cell((ONE, ZERO)), False),
                (one_cell((HALF, HALF)), one_cell((ONE, ZERO), (ZERO, ONE)), True),
                (one_cell((HALF, (5001, 10000))), one_cell((ONE, ZERO), (ZERO, ONE)), False),
                (one_cell((ONE, ZERO), (ZERO, ONE)), one_cell((ONE, ZERO), (ZERO, ONE), (TWO, TWO)), True)]:
            self.assertEqual(self.judged(one, other), told, (one, other))

    def test_the_first_place(self):
        """The two cells shown stand at other indexes, and are compared place by place."""
        one = (1, (((ZERO, (ZERO, ZERO, ONE)),), ((ZERO, (ZERO, ZERO, TWO)),)), (0, 1))
        other = (1, (((ZERO, (ZERO, ZERO, ZERO, (5, 1))),), ((ZERO, (ZERO, ZERO, ZERO, ONE)),),
                     ((ZERO, (ZERO, ZERO, ZERO, ONE)),)), (1, 2))
        self.assertFalse(self.judged(one, other))
        self.assertEqual(why_not(one, other)[:3], ("piece", 1, (TWO,)))
        self.assertTrue(self.judged(other, one))

    def test_no_cell_shown(self):
        some = [(2, EITHER[1], ()), (2, BOTH[1], ()), (2, HEAVY[1], ())]
        for one, other, told in [(0, 1, True), (1, 0, True), (2, 0, False), (0, 2, True), (2, 2, True)]:
            self.assertEqual(self.judged(some[one], some[other]), told)
        self.assertEqual(why_not(some[2], some[0])[0], "inside")

    def test_no_inputs(self):
        light, heavy = (0, (((ONE, (HALF,)),),), (0,)), (0, (((ONE, (ONE,)),),), (0,))
        more = (0, (((ONE, (ZERO, HALF)),), ((ONE, (HALF, ZERO)),)), (1,))
        for one, other, told in [(light, more, True), (more, light, True), (heavy, light, False), (light, heavy, True)]:
            self.assertEqual(self.judged(one, other), told)

    def test_changed_parts(self):
        seen = []
        for chance, part in light_parts(401, 150):
            other = changed(chance, part)
            told = (self.judged(part, other), self.judged(other, part))
            seen.append(told + (has_weights(inner(other)),))
            if all(told):
                self.assertIs(are_alike(part, other), True)
        for kind in [(True, True, True), (True, False, True), (False, True, True)]:
            self.assertGreater(seen.count(kind), 10)

    def test_a_rule_more_is_never_less(self):
        for chance, part in light_parts(402, 60):
            at = chance.randrange(len(part[1]))
            extra = make_part(chance, len(part[1]), 1, part[0])[1][at]
            more = (part[0], part[1][:at] + (part[1][at] + extra,) + part[1][at + 1:], part[2])
            self.assertTrue(self.judged(part, more))

    def test_in_surroundings(self):
        """Where other comes together, what may stand for it does, too."""
        seen = []
        for chance, part in light_parts(403, 60, 2):
            other = changed(chance, part)
            for one, two in ((part, other), (other, part)):
                if stands_for(one, two):
                    for _ in range(5):
                        around = make_surroundings(chance, part, 2)
                        if has_weights(whole_of(two, around)):
                            self.assertTrue(has_weights(whole_of(one, around)))
                            seen.append(one == part)
        self.assertGreater(min(seen.count(True), seen.count(False)), 50)

    def test_at_the_bounds(self):
        chance, part = bounds_part(5)
        _, other = bounds_part(6)
        for one, two in ((part, other), (other, part), (part, changed(chance, part)), (changed(chance, part), part)):
            self.judged(one, two)


class LargeTest(unittest.TestCase):
    def test_equal_arguments_give_equal_results(self):
        chance = random.Random(404)
        for _ in range(20):
            one, other = [make_part(chance, 2, 2, 2, (0,)) for _ in (0, 1)]
            self.assertEqual(why_not(one, other), why_not(one, other))
