"""[11]: fractions."""

import random
import unittest
from fractions import Fraction

from onelate.errors import NoQuotient
from onelate.fractions import compare, fraction, greatest, least, less, over, plus, size_of, times, total
from tests.judge import as_tuple, number

GREAT = [(10 ** 60 + 7, 10 ** 59 + 3), (-(10 ** 80), 3), (7, 10 ** 45 + 1)]


def several():
    """Fractions of all signs and sizes, 0 among them."""
    chance = random.Random(11)
    some = [as_tuple(Fraction(chance.randint(-30, 30), chance.randint(1, 12))) for _ in range(40)]
    return some + [as_tuple(number(one)) for one in GREAT] + [(0, 1), (1, 1), (-1, 1)]


class FractionTest(unittest.TestCase):
    def test_signs_and_lowest_terms(self):
        self.assertEqual(fraction(-4, 6), (-2, 3))
        self.assertEqual(fraction(4, -6), (-2, 3))
        self.assertEqual(fraction(-4, -6), (2, 3))
        self.assertEqual(fraction(3, 1), (3, 1))
        self.assertEqual(fraction(6, 3), (2, 1))
        self.assertEqual(fraction(3, -3), (-1, 1))

    def test_zero(self):
        self.assertEqual(fraction(0, 5), (0, 1))
        self.assertEqual(fraction(0, -5), (0, 1))
        self.assertEqual(fraction(0, 1), (0, 1))

    def test_great_integers(self):
        self.assertEqual(fraction(6 * 10 ** 90, -4 * 10 ** 89), (-15, 1))
        self.assertEqual(fraction(10 ** 50 + 1, 10 ** 50), (10 ** 50 + 1, 10 ** 50))

    def test_no_quotient(self):
        for num in (0, 1, -5, 10 ** 30):
            with self.assertRaises(NoQuotient):
                fraction(num, 0)
        for one in several():
            with self.assertRaises(NoQuotient):
                over(one, (0, 1))

    def test_two_of_them(self):
        for one in several():
            for other in several():
                left, right = number(one), number(other)
                self.assertEqual(plus(one, other), as_tuple(left + right))
                self.assertEqual(less(one, other), as_tuple(left - right))
                self.assertEqual(times(one, other), as_tuple(left * right))
                self.assertEqual(compare(one, other), (left > right) - (left < right))
                if right != 0:
                    self.assertEqual(over(one, other), as_tuple(left / right))

    def test_compare_returns_integers(self):
        for one, other, told in [((1, 2), (2, 3), -1), ((-1, 2), (-1, 2), 0), ((1, 3), (-5, 1), 1)]:
            self.assertEqual(compare(one, other), told)
            self.assertIs(type(compare(one, other)), int)

    def test_size_of(self):
        self.assertEqual([size_of((-2, 3)), size_of((2, 3)), size_of((0, 1))], [(2, 3), (2, 3), (0, 1)])

    def test_total(self):
        self.assertEqual([total([]), total(())], [(0, 1), (0, 1)])
        self.assertEqual(total(((1, 2), (1, 3), (1, 6))), (1, 1))
        self.assertEqual(total([(1, 2), (-1, 2)]), (0, 1))
        self.assertEqual(total(several()), as_tuple(sum(number(one) for one in several())))

    def test_greatest_and_least(self):
        for some in (several(), tuple(several()), several()[::-1], [(-3, 2)], ((-1, 2), (-1, 3)), [(1, 2), (1, 2)]):
            self.assertEqual(greatest(some), max(some, key=number))
            self.assertEqual(least(some), min(some, key=number))

    def test_lists_stay_as_they_were(self):
        some = several()
        total(some), greatest(some), least(some)
        self.assertEqual(some, several())
