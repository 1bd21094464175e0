"""[33], and [7]: paces."""

import random
import unittest
from fractions import Fraction

from onelate.distances import apart, distances, greatest_by
from onelate.errors import TooMany
from onelate.heavylots import is_heavy_lot
from onelate.paces import is_pace_side, pace_between, pace_side, stage_bound, stages_for
from onelate.stages import stages_of
from onelate.weights import is_weights
from tests.judge import (
    HALF, ONE, TWO, ZERO, are_weights, as_tuple, great_book, has_weights, is_heavy, make_fraction, make_row,
    make_start, number, odd_values, some_books, spoiled)

BOOK = (((ONE, ((-1, 2),)),),)
FOUND = ((0,), (0,), (ONE,))
NONE = (((ONE, (ZERO, ONE)),), ((TWO, (ZERO, ZERO)), (ONE, (ZERO, ZERO))))


def divided(book, t):
    """The book by t, by the words."""
    return tuple(
        tuple((told, tuple(as_tuple(number(factor) / number(t)) for factor in factors)) for told, factors in cell)
        for cell in book)


class PaceSideTest(unittest.TestCase):
    def judged(self, book, t):
        told = pace_side(book, t)
        self.assertIsInstance(told, tuple)
        word, side = told
        by = divided(book, t)
        self.assertEqual(word, "weights" if has_weights(by) else "heavy")
        self.assertTrue(are_weights(by, side) if word == "weights" else is_heavy(by, side), (book, t))
        self.assertIs(is_pace_side(book, t, told), True)
        self.assertEqual(is_weights(by, side) or is_heavy_lot(by, side), True)
        return word

    def test_ordinary(self):
        self.assertEqual(self.judged(BOOK, HALF), "heavy")
        self.assertEqual(self.judged(BOOK, (2, 3)), "weights")
        self.assertEqual(self.judged(BOOK, ONE), "weights")
        self.assertEqual(self.judged(BOOK, (1, 3)), "heavy")
        self.assertEqual(self.judged(NONE, (1, 10 ** 4)), "weights")

    def test_just_at_1(self):
        for t, word in [(HALF, "heavy"), ((5001, 10000), "weights"), ((4999, 10000), "heavy")]:
            self.assertEqual(self.judged(BOOK, t), word)
        ring = (((ONE, (ZERO, TWO)),), ((ONE, ((1, 8), ZERO)),))
        for t, word in [(HALF, "heavy"), ((5001, 10000), "weights"), ((4999, 10000), "heavy")]:
            self.assertEqual(self.judged(ring, t), word)

    def test_t_above_1(self):
        double = (((ONE, ((7, 2),)),),)
        for t, word in [((7, 2), "heavy"), ((35001, 10000), "weights"), (ONE, "heavy"), ((4, 1), "weights")]:
            self.assertEqual(self.judged(double, t), word)

    def test_by_the_words(self):
        words = []
        for chance, book in some_books(33, 150, 4):
            words.append(self.judged(book, as_tuple(Fraction(chance.randint(1, 9), 6))))
        self.assertGreater(min(words.count("weights"), words.count("heavy")), 30)

    def test_is_pace_side(self):
        for t, thing, told in [
                ((2, 3), ("weights", (ONE,)), True), ((2, 3), ("weights", ((9, 1),)), True),
                (HALF, ("weights", (ONE,)), False), (HALF, ("heavy", FOUND), True), ((2, 3), ("heavy", FOUND), False),
                ((2, 3), ("weights", (ZERO,)), False), ((2, 3), ("weights", [ONE]), False),
                ((2, 3), ["weights", (ONE,)], False), ((2, 3), ("Weights", (ONE,)), False),
                ((2, 3), ("heavy", (ONE,)), False), (HALF, ("weights", FOUND), False), (HALF, ("", FOUND), False),
                (HALF, (None, FOUND), False), (HALF, (True, FOUND), False), (HALF, (FOUND, "heavy"), False),
                (HALF, ("heavy", FOUND, None), False), (HALF, ("heavy",), False), (HALF, FOUND, False),
                (HALF, ("heavy", ((0,), (0,), ((2, 2),))), False), (HALF, ("heavy", ((False,), (0,), (ONE,))), False)]:
            self.assertIs(is_pace_side(BOOK, t, thing), told, (t, thing))

    def test_is_pace_side_of_any_values(self):
        for thing in odd_values():
            for word in ("weights", "heavy"):
                self.assertIs(is_pace_side(BOOK, (2, 3), thing), False, thing)
                self.assertIs(is_pace_side(BOOK, HALF, (word, thing)), False, thing)
                self.assertIs(is_pace_side(BOOK, (2, 3), (word, thing)), False, thing)
            self.assertIs(is_pace_side(BOOK, HALF, (thing, FOUND)), False, thing)
        for thing in spoiled(("heavy", FOUND)):
            self.assertIs(is_pace_side(BOOK, HALF, thing), False, thing)
        for thing in spoiled(("weights", (ONE,))):
            self.assertIs(is_pace_side(BOOK, (2, 3), thing), False, thing)


class PaceBetweenTest(unittest.TestCase):
    def judged(self, book, width):
        told = pace_between(book, width)
        self.assertIsInstance(told, tuple)
        low, high = told
        self.assertEqual(told, (as_tuple(number(low)), as_tuple(number(high))))
        self.assertGreater(number(high), 0)
        self.assertTrue(0 <= number(low) <= number(high) <= number(low) + number(width), (book, width))
        self.assertTrue(low == ZERO or pace_side(book, low)[0] == "heavy", book)
        self.assertEqual(pace_side(book, high)[0], "weights", book)
        self.assertTrue(low == ZERO or not has_weights(divided(book, low)))
        self.assertTrue(has_weights(divided(book, high)))
        return number(low), number(high)

    def test_ordinary(self):
        low, high = self.judged(BOOK, (1, 10 ** 4))
        self.assertTrue(low <= Fraction(1, 2) < high)
        low, high = self.judged((((ONE, (ZERO, TWO)),), ((ONE, (ONE, ZERO)),)), (1, 10 ** 4))
        self.assertTrue(low ** 2 <= 2 < high ** 2)

    def test_low_0(self):
        """No t is so small that the book by it has a heavy lot."""
        for width in [(1, 10 ** 4), ONE, (10 ** 6, 1)]:
            self.assertEqual(self.judged(NONE, width)[0], 0)

    def test_widths(self):
        for width in [(10 ** 6, 1), (3, 1), HALF, (1, 3), (1, 97), (1, 10 ** 4), (1, 10 ** 30)]:
            self.judged(BOOK, width)

    def test_great_and_small_factors(self):
        for factor in [(10 ** 6, 1), (-10 ** 6, 1), (1, 10 ** 4), (9999, 10000)]:
            low, high = self.judged((((ONE, (factor,)),),), (1, 10 ** 4))
            self.assertTrue(low <= abs(number(factor)) < high)
        self.judged((((ONE, ((1, 10 ** 4),)),),), (1, 10 ** 9))

    def test_by_the_words(self):
        for chance, book in some_books(331, 60, 4):
            self.judged(book, (1, chance.randint(1, 1000)))

    def test_at_the_bounds(self):
        for seed in range(3):
            chance = random.Random(seed)
            book = great_book(chance, 10 ** 6 if seed == 0 else Fraction(1, 4))
            low, high = pace_between(book, (1, 10 ** 4))
            self.assertLessEqual(number(high) - number(low), Fraction(1, 10 ** 4))
            self.assertEqual((pace_side(book, low)[0], pace_side(book, high)[0]), ("heavy", "weights"))


class StageBoundTest(unittest.TestCase):
    def test_ordinary(self):
        far = (((3, 1), ONE),)
        self.assertEqual(stage_bound((ONE,), (2, 3), far, 2), ((4, 3),))
        self.assertEqual(stage_bound((ONE,), (2, 3), far, 0), ((3, 1),))
        self.assertEqual(stage_bound((TWO,), (2, 3), far, 1), (TWO,))
        self.assertEqual(stage_bound((ONE,), (2, 3), ((ONE, (3, 1)),), 0), ((3, 1),))
        self.assertEqual(stage_bound((ONE,), TWO, far, 5), ((96, 1),))
        self.assertEqual(stage_bound((ONE,), ONE, far, 77), ((3, 1),))

    def test_all_cells(self):
        weights, far = ((4, 1), HALF), ((TWO, ONE), (ZERO, (1, 3)))
        self.assertEqual(stage_bound(weights, HALF, far, 0), ((8, 3), (1, 3)))
        self.assertEqual(stage_bound(weights, HALF, far, 3), ((1, 3), (1, 24)))

    def test_distances_all_0(self):
        for stage in (0, 1, 9):
            self.assertEqual(stage_bound((ONE, TWO), (2, 3), ((ZERO, ZERO),) * 2, stage), (ZERO, ZERO))
        self.assertEqual(stages_for((ONE, TWO), (2, 3), ((ZERO, ZERO),) * 2, ZERO), 1)

    def test_by_the_words(self):
        chance = random.Random(332)
        for _ in range(80):
            many, stage = chance.randint(1, 6), chance.randint(0, 40)
            weights = tuple(as_tuple(Fraction(chance.randint(1, 9), chance.randint(1, 9))) for _ in range(many))
            far = tuple(
                tuple(as_tuple(abs(number(make_fraction(chance, 9, 9)))) for _ in range(2)) for _ in range(many))
            t = as_tuple(Fraction(chance.randint(1, 12), chance.randint(6, 12)))
            most = max(number(one) / number(weight) for pair, weight in zip(far, weights) for one in pair)
            bound = [number(t) ** stage * number(weight) * most for weight in weights]
            self.assertEqual(stage_bound(weights, t, far, stage), tuple(as_tuple(one) for one in bound))

    def test_great_stages(self):
        told = stage_bound((ONE,), (9999, 10000), ((ONE, ZERO),), 3000)
        self.assertEqual(told, (as_tuple(Fraction(9999, 10000) ** 3000),))

    def test_all_courses_keep_to_it(self):
        """[7]: distances of a stage from 1 on, divided by weights, are below; those without one are 0."""
        many = 0
        for chance, book in some_books(333, 80, 3):
            t = as_tuple(Fraction(chance.randint(2, 6), 6))
            word, weights = pace_side(book, t)
            if word == "heavy":
                continue
            one, other = make_start(chance, book), make_start(chance, book)
            row = make_row(chance, book, 40, 3)
            far = apart(one, other)
            for turn, stage, distance in zip(row, stages_of(book, row), distances(book, one, other, row)):
                if stage is None:
                    self.assertEqual(distance, ZERO)
                else:
                    many += 1
                    bound = number(stage_bound(weights, t, far, stage)[turn[0]])
                    self.assertTrue(number(distance) < bound or greatest_by(weights, far) == ZERO)
        self.assertGreater(many, 300)


class StagesForTest(unittest.TestCase):
    def test_ordinary(self):
        self.assertEqual(stages_for((ONE,), HALF, (((3, 1), ONE),), HALF), 3)
        self.assertEqual(stages_for((ONE,), HALF, (((3, 1), ONE),), (3, 2)), 1)
        self.assertEqual(stages_for((ONE,), HALF, (((3, 1), ONE),), (3, 1)), 1)
        self.assertEqual(stages_for((ONE,), HALF, (((3, 1), ONE),), (3, 4)), 2)
        self.assertEqual(stages_for((ONE,), HALF, (((3, 1), ONE),), (749, 1000)), 3)
        self.assertEqual(stages_for((ONE,), TWO, ((ONE, ONE),), TWO), 1)

    def test_every_cell_counts(self):
        far = ((ONE, ZERO), (ZERO, ZERO))
        self.assertEqual(stages_for((ONE, TWO), HALF, far, HALF), 2)
        self.assertEqual(stages_for((TWO, ONE), HALF, far, HALF), 1)

    def test_400(self):
        for many in (399, 400):
            self.assertEqual(stages_for((ONE,), HALF, ((ONE, ONE),), (1, 2 ** many)), many)
        for given in [((ONE,), HALF, ((ONE, ONE),), (1, 2 ** 401)), ((ONE,), HALF, ((ONE, ONE),), ZERO),
                      ((ONE,), ONE, ((ONE, ONE),), HALF), ((ONE,), TWO, ((ONE, ONE),), (19, 10)),
                      ((ONE,), (9999, 10000), ((TWO, ONE),), ONE)]:
            with self.assertRaises(TooMany) as caught:
                stages_for(*given)
            self.assertEqual(caught.exception.most, 400)

    def test_nearness_0(self):
        self.assertEqual(stages_for((ONE,), HALF, ((ZERO, ZERO),), ZERO), 1)
        with self.assertRaises(TooMany):
            stages_for((ONE,), (1, 10 ** 4), ((ZERO, (1, 10 ** 4)),), ZERO)

    def test_the_least_stage(self):
        chance = random.Random(334)
        for _ in range(80):
            many = chance.randint(1, 4)
            weights = tuple(as_tuple(Fraction(chance.randint(1, 9), chance.randint(1, 9))) for _ in range(many))
            far = tuple((as_tuple(Fraction(chance.randint(0, 9))), ONE) for _ in range(many))
            t = as_tuple(Fraction(chance.randint(1, 8), 9))
            nearness = (1, chance.randint(1, 1000))
            stage = stages_for(weights, t, far, nearness)
            near = [
                all(number(one) <= number(nearness) for one in stage_bound(weights, t, far, at))
                for at in range(1, stage + 1)]
            self.assertEqual(near, [False] * (stage - 1) + [True])
