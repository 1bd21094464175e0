"""[38]: pieces, mixtures and least pieces."""

import random
import unittest
from fractions import Fraction

from onelate.errors import Heavy
from onelate.heavylots import is_heavy_lot
from onelate.pieces import least_pieces, parting_distances, pieces_of, shares_of
from onelate.reaches import reach_of
from tests.judge import (
    HALF, ONE, TWO, ZERO, all_pieces, as_tuple, has_weights, inner, is_mixed, is_parted, light_parts, make_part,
    number, summed)

PART = (1, (((ZERO, (ZERO, HALF, (1, 4))),), ((ONE, (HALF, ZERO, HALF)), (ZERO, (ZERO, ZERO, (-1, 1))))), (0,))
HEAVY = (1, (((ONE, (ONE, HALF)),),), (0,))
CORNERS = [(ONE, ZERO), (ZERO, ONE)]


def one_cell(inputs, *rows):
    """A part of one cell whose rules read inputs alone."""
    return (inputs, (tuple((ZERO, (ZERO,) + row) for row in rows),), (0,))


def some_tuple(chance, many, top=4):
    return tuple(as_tuple(Fraction(chance.randint(0, top), chance.choice((1, 2, 3)))) for _ in range(many))


def bounds_part(seed):
    """A part at the bounds, each of whose rules reads all cells and inputs, whose inner book has weights."""
    chance = random.Random(seed)
    while True:
        part = make_part(chance, 4, 3, 3, (0, 1, 2, 3), Fraction(4, 5), 0)
        part = (3, tuple(
            tuple((told, factors[:4] + tuple(as_tuple(Fraction(chance.randint(1, 9999), 9999)) for _ in range(3)))
                  for told, factors in cell + cell * (3 - len(cell)))[:3] for cell in part[1]), part[2])
        if has_weights(inner(part)):
            return chance, part


class PiecesTest(unittest.TestCase):
    def test_ordinary(self):
        self.assertEqual(pieces_of(PART, 0), [((2, 3),), ((3, 4),)])
        self.assertEqual(pieces_of(PART, 1), [((1, 1),), ((5, 6),)])
        self.assertEqual(pieces_of(one_cell(2, (HALF, (-2, 1)), (ZERO, ZERO)), 0), [(ZERO, ZERO), (HALF, TWO)])

    def test_no_inputs(self):
        for _, part in light_parts(38, 20, 3, 3, 0):
            self.assertEqual([pieces_of(part, cell) for cell in range(len(part[1]))], [[()]] * len(part[1]))

    def test_different_ones_alone(self):
        self.assertEqual(pieces_of(one_cell(1, (HALF,), ((-1, 2),), (HALF,), (ONE,)), 0), [(HALF,), (ONE,)][::-1])

    def test_the_order_of_tuples(self):
        """(1, 3) stands ahead of (1, 2), as tuples do, though it is the less of the two."""
        self.assertEqual(pieces_of(one_cell(1, (HALF,), ((1, 3),), ((2, 5),), (ZERO,)), 0), [
            (ZERO,), (HALF,), ((1, 3),), ((2, 5),)])

    def test_cells_to_which_nothing_leads(self):
        """The cell 0 has its own rules alone, whatever the others have."""
        part = (1, (((ZERO, (HALF, ZERO, ONE)),), ((ZERO, (ONE, HALF, ONE)), (ONE, (HALF, HALF, TWO)))), (0,))
        self.assertEqual(pieces_of(part, 0), [(TWO,)])
        self.assertEqual(pieces_of(part, 1), [((6, 1),)])

    def test_cells_that_some_rule_leads_to(self):
        part = (1, (((ZERO, (ZERO, HALF, ONE)), (ZERO, (ZERO, ZERO, ONE))), ((ZERO, (ZERO, ZERO, ZERO)),
                                                                           (ZERO, (ZERO, ZERO, TWO)))), (0,))
        self.assertEqual(pieces_of(part, 0), [(ONE,), (TWO,)])

    def test_by_all_choices(self):
        for _, part in light_parts(381, 120):
            for cell in range(len(part[1])):
                told = pieces_of(part, cell)
                self.assertEqual(told, all_pieces(part, cell), part)
                self.assertIsInstance(told, list)

    def test_the_reach_is_the_greatest_of_the_sums(self):
        for chance, part in light_parts(382, 60):
            distances = some_tuple(chance, part[0])
            reach = reach_of(part, distances)
            for cell in range(len(part[1])):
                for told in (pieces_of(part, cell), least_pieces(part, cell)):
                    self.assertEqual(max(summed(piece, distances) for piece in told), number(reach[cell]))

    def test_the_list_is_new(self):
        pieces_of(PART, 0).append(None)
        self.assertEqual(len(pieces_of(PART, 0)), 2)

    def test_heavy(self):
        for ask in (pieces_of, least_pieces):
            with self.assertRaises(Heavy) as caught:
                ask(HEAVY, 0)
            self.assertIs(is_heavy_lot(inner(HEAVY), caught.exception.found), True)
            # The heavy cell is not one to which the cell 0 leads.
            beside = (1, (((ZERO, (ZERO, ZERO, ONE)),), ((ZERO, (ZERO, TWO, ZERO)),)), (0,))
            with self.assertRaises(Heavy) as caught:
                ask(beside, 0)
            self.assertEqual(caught.exception.found[:2], ((0, 0), (1,)))


class MixturesTest(unittest.TestCase):
    def judged(self, piece, pieces):
        """Whether it is at most a mixture; either answer shows by itself that it is right."""
        before = list(pieces)
        shares, distances = shares_of(piece, pieces), parting_distances(piece, pieces)
        self.assertEqual(pieces, before)
        self.assertEqual((shares is None) + (distances is None), 1)
        if distances is None:
            self.assertTrue(is_mixed(piece, pieces, shares), (piece, pieces, shares))
        else:
            self.assertTrue(is_parted(piece, pieces, distances), (piece, pieces, distances))
        self.assertEqual((shares_of(piece, list(pieces)), parting_distances(piece, list(pieces))), (shares, distances))
        return distances is None

    def test_one_of_the_pieces(self):
        for piece in CORNERS + [(HALF, HALF)]:
            self.assertTrue(self.judged(piece, CORNERS + [(HALF, HALF)]))
        self.assertEqual(shares_of((ONE, ZERO), CORNERS), (ONE, ZERO))

    def test_below_just_at_and_above_a_mixture(self):
        for piece, told in [
                ((HALF, HALF), True), (((1, 3), HALF), True), ((HALF, ZERO), True), ((ZERO, ZERO), True),
                (((1, 3), (2, 3)), True), (((5001, 10000), HALF), False), ((HALF, (5001, 10000)), False),
                (((3333, 10000), (6668, 10000)), False), (((10001, 10000), ZERO), False), ((ZERO, TWO), False)]:
            piece = tuple(as_tuple(number(item)) for item in piece)
            self.assertEqual(self.judged(piece, CORNERS), told, piece)

    def test_just_one_mixture(self):
        self.assertEqual(shares_of((HALF, HALF), CORNERS), (HALF, HALF))
        self.assertEqual(shares_of(((1, 3), (2, 3)), CORNERS), ((1, 3), (2, 3)))
        three = [(ONE, ZERO, ZERO), (ZERO, ONE, ZERO), (ZERO, ZERO, ONE)]
        self.assertEqual(shares_of(((1, 6), HALF, (1, 3)), three), ((1, 6), HALF, (1, 3)))
        self.assertFalse(self.judged(((1, 6), HALF, as_tuple(Fraction(3334, 10000))), three))

    def test_no_items(self):
        for many in (1, 2, 5):
            self.assertTrue(self.judged((), [()] * many))

    def test_one_piece_alone(self):
        for piece, told in [((ONE,), True), ((HALF,), True), ((ZERO,), True), ((TWO,), False), (((3, 2),), False)]:
            self.assertEqual(self.judged(piece, [(ONE,)]), told)
        self.assertEqual(shares_of((HALF,), [(ONE,)]), (ONE,))
        self.assertTrue(self.judged((ONE, TWO), [(ONE, TWO)]))
        self.assertFalse(self.judged((ONE, TWO), [((9, 1), ONE)]))
        self.assertTrue(self.judged((ZERO, ZERO), [(ZERO, ZERO)]))
        self.assertFalse(self.judged((ZERO, (1, 10 ** 4)), [(TWO, ZERO)]))

    def test_alike_pieces(self):
        self.assertTrue(self.judged((HALF, HALF), CORNERS * 3))
        self.assertTrue(self.judged((ONE, ZERO), [(ONE, ZERO)] * 4))
        self.assertFalse(self.judged((ONE, ONE), CORNERS * 3))
        self.assertFalse(self.judged((ONE, HALF), [(ONE, ZERO)] * 4))

    def test_zeros(self):
        self.assertTrue(self.judged((ZERO, ZERO, ZERO), [(ZERO, ZERO, ZERO), (ONE, ZERO, ZERO)]))
        self.assertFalse(self.judged((ZERO, ZERO, ONE), [(TWO, TWO, ZERO), (ONE, TWO, ZERO)]))

    def test_many(self):
        chance = random.Random(383)
        told = []
        for _ in range(500):
            many = chance.randint(1, 3)
            pieces = [some_tuple(chance, many) for _ in range(chance.randint(1, 9))]
            told.append(self.judged(some_tuple(chance, many), pieces))
        self.assertGreater(min(told.count(True), told.count(False)), 100)

    def test_mixtures_of_many(self):
        """What is mixed is at most a mixture; a little more, along what parts it from none, is not."""
        chance = random.Random(384)
        for _ in range(100):
            many = chance.randint(1, 3)
            pieces = [some_tuple(chance, many, 50) for _ in range(chance.randint(1, 12))]
            parts = [chance.randint(0, 5) for _ in pieces]
            parts[0] += 1
            mixed = [sum(Fraction(part, sum(parts)) * number(one[at]) for part, one in zip(parts, pieces))
                     for at in range(many)]
            self.assertTrue(self.judged(tuple(as_tuple(item) for item in mixed), pieces))
            top = [max(number(one[at]) for one in pieces) for at in range(many)]
            self.assertFalse(self.judged(tuple(as_tuple(item + Fraction(1, 9999)) for item in top), pieces))


class LeastPiecesTest(unittest.TestCase):
    def judged(self, part, cell):
        told, every = least_pieces(part, cell), pieces_of(part, cell)
        self.assertEqual(told, sorted(set(told)))
        self.assertTrue(set(told) <= set(every) and told != [])
        for piece in every:
            self.assertTrue(is_mixed(piece, told, shares_of(piece, told)), (part, cell))
        for piece in told:
            others = [one for one in every if one != piece]
            if others:
                self.assertTrue(is_parted(piece, others, parting_distances(piece, others)), (part, cell))
        return told, every

    def test_ordinary(self):
        self.assertEqual(least_pieces(PART, 0), [((3, 4),)])
        self.assertEqual(least_pieces(PART, 1), [((1, 1),)])

    def test_one_input_has_the_greatest_alone(self):
        self.assertEqual(least_pieces(one_cell(1, (HALF,), ((1, 3),), ((2, 3),), (ZERO,)), 0), [((2, 3),)])

    def test_mixtures_are_left_out(self):
        some = one_cell(2, (ONE, ZERO), (ZERO, ONE), (HALF, HALF), ((1, 3), (1, 3)))
        self.assertEqual(least_pieces(some, 0), [(ZERO, ONE), (ONE, ZERO)])
        more = one_cell(2, (ONE, ZERO), (ZERO, ONE), (HALF, (5001, 10000)))
        self.assertEqual(least_pieces(more, 0), [(ZERO, ONE), (ONE, ZERO), (HALF, (5001, 10000))])

    def test_just_as_great_in_some_items(self):
        self.assertEqual(least_pieces(one_cell(2, (ONE, ZERO), (ONE, HALF)), 0), [(ONE, HALF)])
        self.assertEqual(least_pieces(one_cell(2, (ZERO, ZERO), (ZERO, HALF)), 0), [(ZERO, HALF)])

    def test_one_piece_alone(self):
        self.assertEqual(least_pieces(one_cell(2, (ZERO, ZERO)), 0), [(ZERO, ZERO)])
        self.assertEqual(least_pieces((0, inner(PART), ()), 1), [()])

    def test_by_the_words(self):
        seen = []
        for _, part in light_parts(385, 120):
            for cell in range(len(part[1])):
                told, every = self.judged(part, cell)
                seen.append((len(told) > 1, len(told) < len(every)))
        for kind in ((True, True), (True, False), (False, True)):
            self.assertGreater(seen.count(kind), 10)

    def test_at_the_bounds(self):
        for seed in range(3):
            _, part = bounds_part(seed)
            self.judged(part, seed)

    def test_corners_of_a_curve(self):
        """All of many pieces are least: none is at most a mixture."""
        rows = [(as_tuple(Fraction(at, 10)), as_tuple(1 - Fraction(at * at, 100))) for at in range(1, 9)]
        self.assertEqual(least_pieces(one_cell(2, *rows), 0), sorted(rows))
