"""[44], and [9]: even books."""

import random
import unittest
from fractions import Fraction

from onelate.errors import NotEven
from onelate.even import energy, low_values, scales_of, squares_of
from tests.judge import HALF, ONE, TWO, ZERO, as_tuple, determinant, number, numbers, plain, value_of
from tests.test_signs import TRIPLE, groups

MINUS = (-1, 1)


def even_book(chance, many, top=1, empty=0.3):
    """An even book, and its scales as Fractions, told numbers and all."""
    scales = [Fraction(chance.randint(1, 9), chance.randint(1, 9)) for _ in range(many)]
    rows = [[Fraction(0)] * many for _ in range(many)]
    for cell in range(many):
        for other in range(cell):
            if chance.random() >= empty:
                both = Fraction(chance.choice((-1, 1)) * chance.randint(1, 20), 20) * top
                rows[cell][other], rows[other][cell] = both / scales[cell], both / scales[other]
    book = tuple(
        (((chance.randint(-5, 5), 1), tuple(as_tuple(item) for item in row)),) for row in rows)
    least = groups(book)
    return book, [scales[cell] / scales[least[cell]] for cell in range(many)]


def energy_of(book, values):
    """By the words of [44], with the scales that the program tells."""
    scales = numbers(scales_of(book))
    told = sum(scale * value * value for scale, value in zip(scales, values))
    for cell in range(len(book)):
        for other in range(len(book)):
            if other != cell:
                told -= scales[cell] * number(book[cell][0][1][other]) * values[cell] * values[other]
    return told


def minors(book):
    """The determinants of the corners of the rows of the energy: all are above 0 exactly if it is."""
    scales = numbers(scales_of(book))
    rows = [
        [scales[cell] * ((cell == other) - number(book[cell][0][1][other])) for other in range(len(book))]
        for cell in range(len(book))]
    return [determinant([row[:many] for row in rows[:many]]) for many in range(1, len(book) + 1)]


class ScalesTest(unittest.TestCase):
    def test_ordinary(self):
        self.assertEqual(scales_of(TRIPLE), (ONE, ONE, ONE))
        self.assertEqual(scales_of((((ZERO, (ZERO, (-2, 1))),), ((ZERO, ((-1, 8), ZERO)),))), (ONE, (16, 1)))
        self.assertEqual(scales_of((((ONE, (ZERO,)),),)), (ONE,))

    def test_several_groups(self):
        book = (((ZERO, (ZERO, ZERO, TWO, ZERO)),), ((ONE, (ZERO, ZERO, ZERO, (1, 3))),),
                ((ZERO, (HALF, ZERO, ZERO, ZERO)),), ((ZERO, (ZERO, ONE, ZERO, ZERO)),))
        self.assertEqual(scales_of(book), (ONE, ONE, (4, 1), (1, 3)))
        self.assertEqual(scales_of((((ONE, (ZERO,) * 3),),) * 3), (ONE, ONE, ONE))

    def test_by_the_cells_between(self):
        """0 and 2 are joined by 1 alone, 3 by 2."""
        book = (((ZERO, (ZERO, TWO, ZERO, ZERO)),), ((ZERO, (ONE, ZERO, MINUS, ZERO)),),
                ((ZERO, (ZERO, (-1, 3), ZERO, HALF)),), ((ZERO, (ZERO, ZERO, TWO, ZERO)),))
        self.assertEqual(scales_of(book), (ONE, TWO, (6, 1), (3, 2)))

    def test_not_even(self):
        for book in [
                (((ONE, (ZERO,)),) * 2,),
                (((ZERO, (ZERO, HALF)), (ZERO, (ZERO, HALF))), ((ZERO, (HALF, ZERO)),)),
                (((ZERO, (ZERO, HALF)),), ((ZERO, (HALF, ZERO)), (ONE, (HALF, ZERO)))),
                (((ONE, (HALF,)),),), (((ONE, (MINUS,)),),),
                (((ZERO, (ZERO, HALF)),), ((ZERO, (HALF, (1, 9))),)),
                (((ZERO, (ZERO, HALF)),), ((ZERO, (ZERO, ZERO)),)), (((ZERO, (ZERO, ZERO)),), ((ZERO, (HALF, ZERO)),)),
                (((ZERO, (ZERO, HALF)),), ((ZERO, ((-1, 2), ZERO)),)),
                (((ZERO, (ZERO, MINUS)),), ((ZERO, (ONE, ZERO)),)),
                # The way round by all three says otherwise than the way straight.
                (((ZERO, (ZERO, ONE, ONE)),), ((ZERO, (ONE, ZERO, ONE)),), ((ZERO, (TWO, ONE, ZERO)),)),
                (((ZERO, (ZERO, ONE, ONE)),), ((ZERO, (ONE, ZERO, ONE)),), ((ZERO, (ONE, ZERO, ZERO)),))]:
            self.assertIsNone(scales_of(book), book)
            for ask in (squares_of, low_values, lambda one: energy(one, (ONE,) * len(one))):
                with self.assertRaises(NotEven):
                    ask(book)

    def test_by_the_words(self):
        chance = random.Random(44)
        for _ in range(150):
            book, scales = even_book(chance, chance.randint(1, 6), 1, chance.choice((0, 0.5, 0.8)))
            told = scales_of(book)
            self.assertEqual(numbers(told), scales, book)
            self.assertEqual(told, tuple(as_tuple(scale) for scale in scales))
            many = len(book)
            cell, other = chance.randrange(many), chance.randrange(many)
            factors = list(book[cell][0][1])
            factors[other] = as_tuple(number(factors[other]) + chance.choice((1, -1, Fraction(1, 10 ** 4))))
            spoiled = book[:cell] + (((ONE, tuple(factors)),),) + book[cell + 1:]
            row = [[number(item) for item in one[0][1]] for one in spoiled]
            # Other scales may answer the new factor, if the two cells are not joined another way.
            if scales_of(spoiled) is not None:
                new = numbers(scales_of(spoiled))
                self.assertTrue(all(scale > 0 for scale in new) and cell != other)
                self.assertTrue(all(
                    row[one][two] * new[one] == row[two][one] * new[two] for one in range(many) for two in range(many)))


class EnergyTest(unittest.TestCase):
    def test_ordinary(self):
        self.assertEqual(energy(TRIPLE, (ONE, MINUS, ZERO)), (4, 5))
        self.assertEqual(energy(TRIPLE, (ONE, ONE, ZERO)), (16, 5))
        self.assertEqual(energy(TRIPLE, (ZERO, ZERO, ZERO)), ZERO)
        self.assertEqual(energy((((TWO, (ZERO,)),),), (HALF,)), (1, 4))

    def test_by_its_own_sum(self):
        chance = random.Random(441)
        for _ in range(120):
            book, _ = even_book(chance, chance.randint(1, 6))
            values = [Fraction(chance.randint(-9, 9), chance.randint(1, 5)) for _ in book]
            told = energy(book, tuple(as_tuple(value) for value in values))
            self.assertEqual(told, as_tuple(energy_of(book, values)))

    def test_a_prompt_turn_makes_it_no_greater(self):
        """It is then as small as it can be by this cell's value."""
        chance = random.Random(442)
        for _ in range(120):
            book, _ = even_book(chance, chance.randint(1, 6), 2)
            values = [Fraction(chance.randint(-9, 9), chance.randint(1, 5)) for _ in book]
            told = number(energy(book, tuple(as_tuple(value) for value in values)))
            cell = chance.randrange(len(book))
            values[cell] = value_of(plain(book)[cell][0], values)
            after = number(energy(book, tuple(as_tuple(value) for value in values)))
            self.assertLessEqual(after, told)
            for more in (1, -1, Fraction(1, 10 ** 4)):
                other = list(values)
                other[cell] += more
                self.assertGreater(number(energy(book, tuple(as_tuple(value) for value in other))), after)


class SquaresTest(unittest.TestCase):
    def judged(self, book, chance):
        """Just one of both is None; each shows by itself that it is right."""
        squares, low = squares_of(book), low_values(book)
        self.assertEqual((squares is None) + (low is None), 1)
        self.assertEqual(low is None, all(minor > 0 for minor in minors(book)), book)
        if squares is None:
            self.assertEqual(low, tuple(as_tuple(value) for value in numbers(low)))
            self.assertTrue(any(value != 0 for value in numbers(low)) and len(low) == len(book))
            self.assertLessEqual(energy_of(book, numbers(low)), 0)
        else:
            self.by_squares(book, squares, chance)
        return squares is not None

    def by_squares(self, book, squares, chance):
        self.assertEqual([len(shares) for _, shares in squares], list(range(len(book)))[::-1])
        self.assertTrue(all(number(part) > 0 for part, _ in squares))
        for one in [one for part, shares in squares for one in (part,) + shares]:
            self.assertEqual(one, as_tuple(number(one)))
        for _ in range(6):
            values = [Fraction(chance.randint(-9, 9), chance.randint(1, 5)) for _ in book]
            told = sum(
                number(part) * (values[cell] + sum(
                    number(share) * value for share, value in zip(shares, values[cell + 1:]))) ** 2
                for cell, (part, shares) in enumerate(squares))
            self.assertEqual(told, energy_of(book, values), book)

    def test_example(self):
        self.assertEqual(squares_of(TRIPLE), ((ONE, ((3, 5), (3, 5))), ((16, 25), ((3, 8),)), ((11, 20), ())))
        self.assertIsNone(low_values(TRIPLE))

    def test_just_at_0(self):
        chance = random.Random(443)
        for factor, told in [(ONE, False), (MINUS, False), ((9999, 10000), True), ((-9999, 10000), True),
                             ((10001, 10000), False), (HALF, True), (TWO, False)]:
            book = (((ONE, (ZERO, factor)),), ((ONE, (factor, ZERO)),))
            self.assertIs(self.judged(book, chance), told)
        for factor in (ONE, MINUS):
            low = low_values((((ONE, (ZERO, factor)),), ((ONE, (factor, ZERO)),)))
            self.assertEqual(energy((((ONE, (ZERO, factor)),), ((ONE, (factor, ZERO)),)), low), ZERO)
        three = tuple(((ONE, tuple(ZERO if at == cell else HALF for at in range(3))),) for cell in range(3))
        self.assertIs(self.judged(three, chance), False)
        self.assertEqual(energy(three, low_values(three)), ZERO)

    def test_0_in_the_middle(self):
        """The second part is 0, and the third cell reads it or not."""
        for factor in (ZERO, HALF, MINUS):
            book = (((ONE, (ZERO, ONE, ZERO)),), ((ONE, (ONE, ZERO, factor)),), ((ONE, (ZERO, factor, ZERO)),))
            self.assertIs(self.judged(book, random.Random(0)), False)
            self.assertEqual(low_values(book)[2], ZERO)

    def test_low_in_the_middle(self):
        """The first two cells are low already; those behind have 0."""
        book = (((ONE, (ZERO, TWO, HALF)),), ((ONE, (TWO, ZERO, ZERO)),), ((ONE, (HALF, ZERO, ZERO)),))
        self.assertIs(self.judged(book, random.Random(0)), False)
        self.assertEqual(low_values(book)[2], ZERO)

    def test_by_the_words(self):
        chance, seen = random.Random(444), []
        for _ in range(200):
            book, _ = even_book(chance, chance.randint(1, 6), chance.choice((1, 2, 4)), chance.choice((0, 0.5)))
            seen.append(self.judged(book, chance))
        self.assertGreater(min(seen.count(True), seen.count(False)), 50)

    def test_prompt_rows_bring_all_to_0_or_do_not(self):
        """[9]: by rounds of prompt turns the energy goes to 0 with squares, and not from low values."""
        chance = random.Random(445)
        for _ in range(40):
            book, _ = even_book(chance, chance.randint(2, 4), 1, 0)
            low = low_values(book)
            values = numbers(low) if low else [Fraction(chance.randint(-9, 9)) for _ in book]
            first = energy_of(book, values)
            for _ in range(12):
                for cell in chance.sample(range(len(book)), len(book)):
                    values[cell] = value_of(plain(book)[cell][0], values)
            last = energy_of(book, values)
            self.assertLessEqual(last, first)
            self.assertTrue(last < first * Fraction(9, 10) or first == 0 if low is None else last <= 0)

    def test_at_the_bounds(self):
        chance = random.Random(446)
        for _ in range(20):
            scale = [Fraction(chance.randint(1, 99), 100) for _ in range(6)]
            rows = [[Fraction(0)] * 6 for _ in range(6)]
            for cell in range(6):
                for other in range(cell):
                    rows[cell][other] = rows[other][cell] = Fraction(chance.randint(-9999, 9999), 30000)
            book = tuple(((ONE, tuple(as_tuple(item / scale[cell]) for item in row)),) for cell, row in enumerate(rows))
            self.judged(book, chance)
