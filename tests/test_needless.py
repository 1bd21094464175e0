"""[42]: needless rules."""

import random
import unittest

from onelate.errors import Heavy
from onelate.flat import form_of
from onelate.heavylots import is_heavy_lot
from onelate.needless import needless_rules, spare_part
from onelate.stands import are_alike
from tests.judge import HALF, ONE, TWO, ZERO, has_weights, inner, light_parts, make_part
from tests.test_pieces import bounds_part
from tests.test_stands import BOTH, EITHER, HEAVY, changed

MINUS = (-1, 1)


def without(part, cell, rule):
    """The part without one rule."""
    cells = list(part[1])
    cells[cell] = cells[cell][:rule] + cells[cell][rule + 1:]
    return (part[0], tuple(cells), part[2])


def bars(part):
    return [(cell, rule) for cell in range(len(part[1])) for rule in range(len(part[1][cell]))]


class NeedlessTest(unittest.TestCase):
    def judged(self, part):
        """By the words of [42]."""
        told = tuple(
            (cell, rule) for cell, rule in bars(part)
            if len(part[1][cell]) > 1 and are_alike(part, without(part, cell, rule)))
        self.assertEqual(needless_rules(part), told, part)
        left = part
        for cell, rule in reversed(bars(part)):
            if len(left[1][cell]) > 1 and are_alike(left, without(left, cell, rule)):
                left = without(left, cell, rule)
        spare = spare_part(part)
        self.assertEqual(spare, left, part)
        self.assertIs(are_alike(spare, part), True)
        self.assertEqual(needless_rules(spare), ())
        self.assertEqual(spare_part(spare), spare)
        return told, spare

    def test_example(self):
        more = (2, (EITHER[1][0] + BOTH[1][0],), (0,))
        self.assertEqual(self.judged(more), (((0, 2),), EITHER))
        self.assertEqual(self.judged(EITHER), ((), EITHER))
        self.assertEqual(self.judged(BOTH), ((), BOTH))

    def test_rules_twice(self):
        """Each of the two is needless, but not both; the last one goes."""
        rule, low = (ZERO, (HALF, ONE)), (ONE, (ZERO, HALF))
        self.assertEqual(self.judged((1, ((rule, rule),), (0,))), (((0, 0), (0, 1)), (1, ((rule,),), (0,))))
        self.assertEqual(self.judged((1, ((rule, low, ((9, 1), ((-1, 2), MINUS))),), (0,)))[0], ((0, 0), (0, 1), (0, 2)))
        self.assertEqual(spare_part((1, ((low, rule, rule),), (0,))), (1, ((rule,),), (0,)))

    def test_smaller_rules(self):
        low, high = (ZERO, (HALF, HALF)), (ONE, (HALF, ONE))
        self.assertEqual(self.judged((1, ((low, high),), (0,))), (((0, 0),), (1, ((high,),), (0,))))
        self.assertEqual(self.judged((1, ((high, low),), (0,))), (((0, 1),), (1, ((high,),), (0,))))

    def test_factors_of_cells(self):
        """A greater own factor makes more of the same input."""
        low, high = (ZERO, (HALF, ONE)), (ZERO, ((2, 3), (3, 4)))
        self.assertEqual(self.judged((1, ((low, high),), (0,))), (((0, 0),), (1, ((high,),), (0,))))
        # Other factors that come to the same piece: either may go.
        same = (ZERO, (HALF, (9, 8)))
        self.assertEqual(self.judged((1, ((same, high),), (0,))), (((0, 0), (0, 1)), (1, ((same,),), (0,))))

    def test_mixtures(self):
        rows = [(ONE, ZERO), ((1, 3), (1, 3)), (ZERO, ONE), (HALF, HALF)]
        part = (2, (tuple((ZERO, (ZERO,) + row) for row in rows),), (0,))
        told, spare = self.judged(part)
        self.assertEqual(told, ((0, 1), (0, 3)))
        self.assertEqual(spare[1][0], (part[1][0][0], part[1][0][2]))

    def test_cells_that_no_shown_cell_hangs_on(self):
        rules = ((ZERO, (ZERO, HALF, ONE)), (ONE, (ZERO, ZERO, TWO)), (TWO, (HALF, ZERO, ONE)))
        part = (1, (rules[1:2], rules), (0,))
        self.assertEqual(self.judged(part), (((1, 0), (1, 1), (1, 2)), (1, (rules[1:2], rules[:1]), (0,))))

    def test_nothing_shown(self):
        part = (2, EITHER[1], ())
        self.assertEqual(self.judged(part), (((0, 0), (0, 1)), (2, (EITHER[1][0][:1],), ())))

    def test_no_inputs(self):
        part = (0, (((ZERO, (HALF,)), (ONE, (ZERO,))),), (0,))
        self.assertEqual(self.judged(part), (((0, 0), (0, 1)), (0, (part[1][0][:1],), (0,))))

    def test_a_rule_that_only_some_choice_of_others_needs(self):
        """The cell 1 has a rule that reads 0: what it needs of 0 is the same rule that is shown."""
        part = (1, (((ZERO, (ZERO, ZERO, ONE)), (ZERO, (ZERO, HALF, ZERO))),
                    ((ZERO, (ONE, ZERO, ZERO)), (ZERO, (ZERO, ZERO, TWO)))), (0, 1))
        self.judged(part)

    def test_by_the_words(self):
        seen = []
        for chance, part in light_parts(42, 120):
            told, _ = self.judged(part)
            seen.append(told == ())
            other = changed(chance, part)
            if has_weights(inner(other)):
                self.judged(other)
        self.assertGreater(min(seen.count(True), seen.count(False)), 20)

    def test_heavy(self):
        twice = (2, (HEAVY[1][0] * 2,), ())
        for part in (HEAVY, twice):
            for ask in (needless_rules, spare_part):
                with self.assertRaises(Heavy) as caught:
                    ask(part)
                self.assertIs(is_heavy_lot(inner(part), caught.exception.found), True)
        chance = random.Random(421)
        for _ in range(40):
            part = make_part(chance, 2, 2, 2, None, 3)
            if not has_weights(inner(part)):
                with self.assertRaises(Heavy) as caught:
                    needless_rules(part)
                self.assertIs(is_heavy_lot(inner(part), caught.exception.found), True)

    def test_at_the_bounds(self):
        self.judged(bounds_part(0)[1])
        for seed in range(1, 4):
            _, part = bounds_part(seed)
            spare = spare_part(part)
            self.assertEqual(needless_rules(spare), ())
            self.assertEqual(form_of(spare), form_of(part))
