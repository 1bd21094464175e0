"""[39], and [8]: forms and flat parts."""

import random
import unittest
from fractions import Fraction

from onelate.errors import Heavy
from onelate.flat import flat_part, form_of
from onelate.forms import is_book
from onelate.heavylots import is_heavy_lot
from onelate.parts import is_part, joined_part
from onelate.pieces import least_pieces, parting_distances
from onelate.weights import weights_of
from tests.judge import (
    HALF, ONE, TWO, ZERO, as_tuple, has_weights, inner, light_parts, make_surroundings, number, shrinks, sizes, summed,
    whole_of)
from tests.test_pieces import bounds_part

THREE = (3, 4)
PART = (1, (((ZERO, (ZERO, HALF, (1, 4))),), ((ONE, (HALF, ZERO, HALF)), (ZERO, (ZERO, ZERO, (-1, 1))))), (0,))
HEAVY = (1, (((ONE, (ONE, HALF)),),), (0,))


def cell_of(*rows):
    return tuple((ZERO, row) for row in rows)


class FlatTest(unittest.TestCase):
    def judged(self, part):
        form, flat = form_of(part), flat_part(part)
        self.assertEqual(form, tuple(tuple(least_pieces(part, cell)) for cell in part[2]))
        many = len(part[2])
        self.assertEqual(flat, (part[0], tuple(
            tuple((ZERO, (ZERO,) * many + piece) for piece in pieces) for pieces in form), tuple(range(many))))
        self.assertTrue(is_part(flat))
        self.assertEqual(form_of(flat), form)
        self.assertEqual(flat_part(flat), flat)
        return flat

    def test_one_shown_cell(self):
        self.assertEqual(form_of(PART), ((((3, 4),),),))
        self.assertEqual(self.judged(PART), (1, (cell_of((ZERO, THREE)),), (0,)))

    def test_several_shown_cells(self):
        part = PART[:2] + ((0, 1),)
        self.assertEqual(form_of(part), (((THREE,),), ((ONE,),)))
        self.assertEqual(self.judged(part), (1, (cell_of((ZERO, ZERO, THREE)), cell_of((ZERO, ZERO, ONE))), (0, 1)))
        self.assertEqual(form_of(PART[:2] + ((1,),)), (((ONE,),),))

    def test_several_rules(self):
        rows = [(ZERO, ONE, ZERO), (ZERO, ZERO, TWO), (ZERO, HALF, HALF)]
        self.assertEqual(self.judged((2, (cell_of(*rows),), (0,))), (2, (cell_of(rows[1], rows[0]),), (0,)))

    def test_no_inputs(self):
        self.assertEqual(self.judged((0, inner(PART), (0, 1))), (0, (cell_of((ZERO, ZERO)),) * 2, (0, 1)))

    def test_no_shown_cell(self):
        self.assertEqual(form_of(PART[:2] + ((),)), ())

    def test_by_the_words(self):
        for _, part in light_parts(39, 120):
            if part[2]:
                self.judged(part)

    def test_heavy(self):
        for ask in (form_of, flat_part):
            with self.assertRaises(Heavy) as caught:
                ask(HEAVY)
            self.assertIs(is_heavy_lot(inner(HEAVY), caught.exception.found), True)
        with self.assertRaises(Heavy):
            form_of(HEAVY[:2] + ((),))

    def test_at_the_bounds(self):
        for seed in range(2):
            self.judged(bounds_part(seed)[1])


class JoinedTest(unittest.TestCase):
    def test_example(self):
        self.assertEqual(form_of(joined_part(1, PART, (0,), PART, (1,))), (((THREE,),), (((9, 16),),)))

    def test_joined_flat_parts(self):
        chance, seen = random.Random(390), []
        parts = [part for _, part in light_parts(391, 60, 2, 2, 2) if part[2]]
        for _ in range(250):
            one, other = chance.choice(parts), chance.choice(parts)
            inputs = chance.randint(max(0, one[0] - len(other[2]), other[0] - len(one[2])), 3)
            feeds = tuple(chance.sample(range(inputs + len(other[2])), one[0]))
            others = tuple(chance.sample(range(inputs + len(one[2])), other[0]))
            joined = joined_part(inputs, one, feeds, other, others)
            flat = joined_part(inputs, flat_part(one), feeds, flat_part(other), others)
            crossed = max(feeds + (0,)) >= inputs and max(others + (0,)) >= inputs
            self.assertEqual(has_weights(inner(joined)), has_weights(inner(flat)))
            if has_weights(inner(joined)):
                self.assertEqual(form_of(joined), form_of(flat))
            seen.append((crossed, has_weights(inner(joined))))
        for kind in ((True, True), (True, False), (False, True)):
            self.assertGreater(seen.count(kind), 10)


class SurroundingsTest(unittest.TestCase):
    def same(self, part, around):
        whole = whole_of(part, around)
        self.assertTrue(is_book(whole))
        told = weights_of(whole) is not None
        self.assertEqual(told, has_weights(whole))
        self.assertEqual(weights_of(whole_of(flat_part(part), around)) is not None, told, (part, around))
        return told

    def test_in_all_surroundings(self):
        seen = []
        for chance, part in light_parts(392, 80):
            if part[2]:
                for _ in range(4):
                    seen.append(self.same(part, make_surroundings(chance, part, 3, chance.choice((1, 2)))))
        self.assertGreater(min(seen.count(True), seen.count(False)), 60)

    def test_just_heavy(self):
        """Surroundings that read one shown cell by just what its pieces come to, and by a little less."""
        seen = 0
        for chance, part in light_parts(393, 60):
            for place, pieces in enumerate(form_of(part)):
                piece = chance.choice(pieces)
                if all(item == ZERO for item in piece):
                    continue
                distances = [as_tuple(Fraction(chance.randint(0, 4))) for _ in piece]
                most = max(summed(one, distances) for one in pieces)
                if most == 0:
                    continue
                for by, told in [(1, False), (Fraction(9999, 10000), True)]:
                    rows = [tuple(
                        as_tuple(by * number(one) / most) if at == place else ZERO for at in range(len(part[2])))
                        for one in distances]
                    cells = tuple(cell_of((ZERO,) * len(rows) + row) for row in rows)
                    around = (len(part[2]), cells, tuple(range(len(rows))))
                    self.assertIs(self.same(part, around), told)
                    seen += 1
        self.assertGreater(seen, 60)

    def test_a_least_piece_more_is_told(self):
        """Without any one of its pieces a flat part differs: some surroundings tell it."""
        seen = 0
        for _, part in light_parts(394, 60):
            for place, pieces in enumerate(form_of(part)):
                for piece in pieces if len(pieces) > 1 else ():
                    distances = parting_distances(piece, [one for one in pieces if one != piece])
                    most = summed(piece, distances)
                    rows = [tuple(as_tuple(number(one) / most) if at == place else ZERO for at in range(len(part[2])))
                            for one in distances]
                    around = (len(part[2]), tuple(cell_of((ZERO,) * len(rows) + row) for row in rows),
                              tuple(range(len(rows))))
                    flat = flat_part(part)
                    cells = list(flat[1])
                    cells[place] = tuple(rule for rule in cells[place] if rule[1][len(flat[1]):] != piece)
                    self.assertFalse(has_weights(whole_of(flat, around)))
                    self.assertTrue(has_weights(whole_of((flat[0], tuple(cells), flat[2]), around)))
                    seen += 1
        self.assertGreater(seen, 20)

    def test_heavy_inside(self):
        """If the part by itself has no weights, nothing that it is in has."""
        chance = random.Random(395)
        for _ in range(20):
            around = make_surroundings(chance, HEAVY)
            self.assertFalse(shrinks(sizes(inner(HEAVY), (0,))))
            self.assertIsNone(weights_of(whole_of(HEAVY, around)))
