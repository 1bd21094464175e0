"""[14]: texts."""

import random
import unittest

from onelate.reader import read_book
from onelate.texts import show_book
from tests.judge import HALF, ONE, TWO, ZERO, make_book, make_fraction


def shown(told, *factors):
    """The sum that is shown of the first rule of a book, its cells being a, b, c .."""
    rule = (told, factors)
    book = tuple((rule,) for _ in factors)
    return show_book(book, tuple("abcdef"[:len(factors)])).split("\n")[1]


class TextsTest(unittest.TestCase):
    def test_told_numbers(self):
        self.assertEqual(shown(ZERO, ZERO), "rule 0")
        self.assertEqual(shown((3, 1), ZERO), "rule 3")
        self.assertEqual(shown((-3, 1), ZERO), "rule - 3")
        self.assertEqual(shown((5, 12), ZERO, ZERO), "rule 5/12")
        self.assertEqual(shown((-5, 12), ZERO), "rule - 5/12")

    def test_factors_in_order_with_their_signs(self):
        self.assertEqual(shown(ZERO, ONE), "rule 1 a")
        self.assertEqual(shown(ZERO, (-1, 1)), "rule - 1 a")
        self.assertEqual(shown(HALF, (-2, 3), ONE), "rule 1/2 - 2/3 a + 1 b")
        self.assertEqual(shown((-1, 2), HALF, ZERO, (-7, 1)), "rule - 1/2 + 1/2 a - 7 c")
        self.assertEqual(shown(ZERO, ZERO, (-3, 4), (5, 1)), "rule - 3/4 b + 5 c")

    def test_cells_and_rules_line_by_line(self):
        book = (((ONE, (ZERO, HALF)), (ZERO, (ZERO, ZERO))), ((ZERO, (TWO, ZERO)),))
        self.assertEqual(show_book(book, ("x", "yy")), "cell x\nrule 1 + 1/2 yy\nrule 0\ncell yy\nrule 2 x")
        self.assertEqual(show_book((((ONE, (ONE,)),),), ("rule",)), "cell rule\nrule 1 + 1 rule")

    def test_what_is_shown_is_read_back(self):
        chance = random.Random(14)
        for many in range(1, 7):
            for _ in range(30):
                book = make_book(chance, many, 3, lambda: make_fraction(chance, 10 ** 6, 10 ** 4))
                names = tuple(chance.sample(["a", "b", "cell", "rule", "zzzzzz", "one", "az"], many))
                self.assertEqual(read_book(show_book(book, names)), (book, names))
