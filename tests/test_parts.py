"""[36]: parts."""

import random
import unittest

from onelate.parts import inner_book, is_part, is_surroundings, joined_part, parted, whole_book
from tests.judge import (
    HALF, ONE, TWO, ZERO, inner, light_parts, make_book, make_fraction, make_part, make_surroundings, odd_values,
    spoiled, whole_of)

THIRD, MINUS = (1, 3), (-1, 1)
FIRST = ((ZERO, (ZERO, HALF, THIRD)),)
SECOND = ((ONE, (HALF, ZERO, TWO)), (ZERO, (ZERO, ZERO, MINUS)))
PART = (1, (FIRST, SECOND), (0,))
# Two inputs, one cell.
NARROW = (2, (((TWO, (HALF, ONE, MINUS)),),), (0,))
CLOSED = (0, (((ONE, (HALF,)),),), ())


def renamed(book, order):
    """The book whose cell i is the cell order[i]."""
    return tuple(
        tuple((told, tuple(factors[other] for other in order)) for told, factors in book[cell]) for cell in order)


class IsPartTest(unittest.TestCase):
    def test_what_is_one(self):
        for thing in [PART, NARROW, CLOSED, PART[:2] + ((),), PART[:2] + ((1,),), PART[:2] + ((0, 1),),
                      (0, (((ZERO, (ZERO, ZERO)),),) * 2, (0, 1))]:
            self.assertIs(is_part(thing), True, thing)
        for chance, part in light_parts(36, 50):
            self.assertIs(is_part(part), True)
            self.assertIs(is_part(make_surroundings(chance, part)), True)

    def test_no_cells(self):
        for thing in [(1, (), ()), (0, (), ()), (1, ((),), ()), (1, (FIRST, ()), ())]:
            self.assertIs(is_part(thing), False, thing)

    def test_too_few_and_too_many_cells(self):
        for inputs in (0, 2, 3, 10 ** 39):
            self.assertIs(is_part((inputs, (FIRST, SECOND), (0,))), False)
        for cells in [(FIRST,), (FIRST, SECOND, FIRST), (FIRST, ((ZERO, (ZERO,) * 2),)), (FIRST, ((ZERO, (ZERO,) * 4),)),
                      (FIRST, SECOND[:1] + ((ZERO, ()),))]:
            self.assertIs(is_part((1, cells, ())), False)

    def test_inputs_that_are_none(self):
        for inputs in (-1, True, False, None, "1", (1,), ONE, [1]):
            self.assertIs(is_part((inputs, (FIRST, SECOND), (0,))), False, inputs)
        self.assertIs(is_part((-1, (((ZERO, ()),),), ())), False)
        self.assertIs(is_part((False, CLOSED[1], ())), False)

    def test_shown_that_is_none(self):
        for shown in [(1, 0), (0, 0), (1, 1), (2,), (0, 2), (-1,), (True,), (False,), (0, True), [0], 0, None, (None,),
                      ((0,),), "0", {0: 0}]:
            self.assertIs(is_part((1, (FIRST, SECOND), shown)), False, shown)

    def test_lists_and_fractions(self):
        for thing in [[1, (FIRST, SECOND), (0,)], (1, [FIRST, SECOND], (0,)), (1, (list(FIRST), SECOND), (0,)),
                      (1, (([ZERO, (ZERO, HALF, THIRD)],), SECOND), (0,)),
                      (1, (((ZERO, [ZERO, HALF, THIRD]),), SECOND), (0,)),
                      (1, (((ZERO, (ZERO, (2, 4), THIRD)),), SECOND), (0,)),
                      (1, ((((2, 2), (ZERO, HALF, THIRD)),), SECOND), (0,)),
                      (1, (((ZERO, ((0, 2), HALF, THIRD)),), SECOND), (0,)),
                      (1, (((ZERO, (ZERO, HALF, (True, 3))),), SECOND), (0,)), PART + (0,), PART[:2]]:
            self.assertIs(is_part(thing), False, thing)

    def test_any_values(self):
        for thing in odd_values():
            self.assertIs(is_part(thing), False)
        for part in (PART, NARROW):
            for thing in spoiled(part):
                self.assertIs(is_part(thing), False, thing)


class IsSurroundingsTest(unittest.TestCase):
    around = (1, (((ONE, (ZERO, HALF)),),), (0,))

    def test_what_is_one(self):
        self.assertIs(is_surroundings(PART, self.around), True)
        self.assertIs(is_surroundings(PART, PART), True)
        self.assertIs(is_surroundings(NARROW, (1, (FIRST, SECOND), (0, 1))), True)
        self.assertIs(is_surroundings(CLOSED, CLOSED), True)
        self.assertIs(is_surroundings((1, (FIRST, SECOND), (0, 1)), NARROW), True)

    def test_other_numbers(self):
        for part, thing in [
                (PART, NARROW), (NARROW, PART), (PART, CLOSED), (CLOSED, PART), (PART, PART[:2] + ((),)),
                (PART, PART[:2] + ((0, 1),)), (PART[:2] + ((),), PART), (PART[:2] + ((0, 1),), PART),
                (NARROW, NARROW), (PART, (0, CLOSED[1], (0,))), (CLOSED, (0, CLOSED[1], (0,)))]:
            self.assertIs(is_surroundings(part, thing), False, thing)

    def test_any_values(self):
        for thing in odd_values():
            self.assertIs(is_surroundings(PART, thing), False)
            self.assertIs(is_surroundings(CLOSED, thing), False)
        for thing in spoiled(self.around):
            self.assertIs(is_surroundings(PART, thing), False)


class InnerBookTest(unittest.TestCase):
    def test_ordinary(self):
        self.assertEqual(
            inner_book(PART), (((ZERO, (ZERO, HALF)),), ((ONE, (HALF, ZERO)), (ZERO, (ZERO, ZERO)))))
        self.assertEqual(inner_book(NARROW), (((TWO, (HALF,)),),))
        self.assertEqual(inner_book(CLOSED), CLOSED[1])

    def test_by_the_words(self):
        for _, part in light_parts(361, 40):
            self.assertEqual(inner_book(part), inner(part))


class WholeBookTest(unittest.TestCase):
    def test_cell_by_cell(self):
        part = (2, (((ONE, (HALF, ZERO, TWO, MINUS)),), ((ZERO, (ZERO, ZERO, ZERO, THIRD)), (TWO, (ONE,) * 4))), (1,))
        around = (1, (((TWO, (HALF, ZERO, ZERO, (5, 1))),), ((ZERO, (ZERO, ONE, ZERO, ZERO)),),
                      ((ONE, (ZERO, (7, 1), HALF, MINUS)),)), (0, 2))
        self.assertEqual(whole_book(part, around), (
            ((ONE, (HALF, ZERO, TWO, ZERO, MINUS)),),
            ((ZERO, (ZERO, ZERO, ZERO, ZERO, THIRD)), (TWO, (ONE, ONE, ONE, ZERO, ONE))),
            ((TWO, (ZERO, (5, 1), HALF, ZERO, ZERO)),),
            ((ZERO, (ZERO, ZERO, ZERO, ONE, ZERO)),),
            ((ONE, (ZERO, MINUS, ZERO, (7, 1), HALF)),)))

    def test_no_inputs_and_no_shown_cells(self):
        around = (0, (((TWO, (HALF, ONE)),), ((ONE, (ZERO, ZERO)),)), ())
        self.assertEqual(whole_book(CLOSED, around), (
            ((ONE, (HALF, ZERO, ZERO)),), ((TWO, (ZERO, HALF, ONE)),), ((ONE, (ZERO, ZERO, ZERO)),)))

    def test_by_the_words(self):
        for chance, part in light_parts(362, 80):
            around = make_surroundings(chance, part)
            self.assertEqual(whole_book(part, around), whole_of(part, around))
            self.assertEqual(inner_book(part), tuple(
                tuple((told, factors[:len(part[1])]) for told, factors in cell)
                for cell in whole_book(part, around)[:len(part[1])]))


class PartedTest(unittest.TestCase):
    book = (((ONE, (HALF, ZERO, ZERO, TWO)), (ZERO, (ZERO, THIRD, ZERO, ZERO))), ((ZERO, (ZERO, ZERO, ZERO, ZERO)),),
            ((ZERO, (ZERO, ZERO, MINUS, ZERO)),), ((ZERO, (ZERO, ZERO, THIRD, ZERO)), (TWO, (ONE, ZERO, ZERO, HALF))))

    def test_lots_of_one_cell(self):
        self.assertEqual(parted(self.book, (0,)), (
            (2, (((ONE, (HALF, ZERO, TWO)), (ZERO, (ZERO, THIRD, ZERO))),), (0,)),
            (1, (((ZERO, (ZERO,) * 4),), ((ZERO, (ZERO, MINUS, ZERO, ZERO)),),
                 ((ZERO, (ZERO, THIRD, ZERO, ZERO)), (TWO, (ZERO, ZERO, HALF, ONE)))), (0, 2))))

    def test_a_cell_that_reads_nothing_beside(self):
        part, around = parted(self.book, (1,))
        self.assertEqual(part, (0, (((ZERO, (ZERO,)),),), (0,)))
        self.assertEqual((around[0], around[2]), (1, ()))

    def test_a_cell_that_nothing_beside_reads(self):
        book = (self.book[0], ((ONE, (ZERO, HALF, ZERO, TWO)),)) + self.book[2:]
        book = (((ZERO, (HALF, ZERO, ZERO, ZERO)),),) + book[1:]
        part, around = parted(book, (1,))
        self.assertEqual(part, (1, (((ONE, (HALF, TWO)),),), ()))
        self.assertEqual((around[0], around[2]), (0, (2,)))

    def test_lots_of_several_cells(self):
        """The cell 3 reads 0 and 2; of the lot (0, 3) nothing but 2 and 1 is read, and nothing beside reads it."""
        self.assertEqual(parted(self.book, (0, 3)), (
            (2, (((ONE, (HALF, TWO, ZERO, ZERO)), (ZERO, (ZERO, ZERO, THIRD, ZERO))),
                 ((ZERO, (ZERO, ZERO, ZERO, THIRD)), (TWO, (ONE, HALF, ZERO, ZERO)))), ()),
            (0, (((ZERO, (ZERO, ZERO)),), ((ZERO, (ZERO, MINUS)),)), (0, 1))))

    def test_what_is_told_makes_the_book_again(self):
        chance = random.Random(363)
        seen = set()
        for _ in range(150):
            many = chance.randint(2, 6)
            book = make_book(chance, many, 3, lambda: make_fraction(chance, 9, 9), chance.choice((0.3, 0.7, 0.9)))
            lot = tuple(sorted(chance.sample(range(many), chance.randint(1, many - 1))))
            part, around = parted(book, lot)
            others = [cell for cell in range(many) if cell not in lot]
            self.assertTrue(is_part(part) and is_surroundings(part, around))
            self.assertEqual(whole_book(part, around), renamed(book, list(lot) + others))
            reads = {(cell, at) for cell in range(many) for rule in book[cell] for at in range(many)
                     if rule[1][at] != ZERO}
            fed = [cell for cell in others if any((one, cell) in reads for one in lot)]
            shown = [cell for cell in lot if any((one, cell) in reads for one in others)]
            self.assertEqual(part[0], len(fed))
            self.assertEqual(part[2], tuple(lot.index(cell) for cell in shown))
            self.assertEqual(around[2], tuple(others.index(cell) for cell in fed))
            seen.add((len(fed), len(shown)))
        self.assertIn((0, 0), seen)
        self.assertGreater(len(seen), 8)


class JoinedPartTest(unittest.TestCase):
    def test_new_inputs_and_feeds(self):
        other = (1, (((ONE, (ZERO, THIRD, MINUS)),), ((ZERO, (ONE, ZERO, ZERO)),)), (1,))
        # NARROW reads the new input 1 and what other shows; other reads what NARROW shows.
        self.assertEqual(joined_part(2, NARROW, (1, 2), other, (2,)), (2, (
            ((TWO, (HALF, ZERO, MINUS, ZERO, ONE)),),
            ((ONE, (MINUS, ZERO, THIRD, ZERO, ZERO)),),
            ((ZERO, (ZERO, ONE, ZERO, ZERO, ZERO)),)), (0, 2)))

    def test_an_input_that_both_have(self):
        self.assertEqual(joined_part(1, PART, (0,), PART, (0,)), (1, (
            ((ZERO, (ZERO, HALF, ZERO, ZERO, THIRD)),),
            ((ONE, (HALF, ZERO, ZERO, ZERO, TWO)), (ZERO, (ZERO, ZERO, ZERO, ZERO, MINUS))),
            ((ZERO, (ZERO, ZERO, ZERO, HALF, THIRD)),),
            ((ONE, (ZERO, ZERO, HALF, ZERO, TWO)), (ZERO, (ZERO, ZERO, ZERO, ZERO, MINUS)))), (0, 2)))

    def test_inputs_that_nothing_reads(self):
        self.assertEqual(joined_part(3, CLOSED, (), CLOSED, ()), (
            3, (((ONE, (HALF,) + (ZERO,) * 4),), ((ONE, (ZERO, HALF, ZERO, ZERO, ZERO)),)), ()))

    def test_no_new_inputs(self):
        """Each is fed by the other one alone: then what is joined has the whole book of both."""
        one, other = (1, (FIRST, SECOND), (1,)), (1, (((ONE, (THIRD, TWO)),),), (0,))
        joined = joined_part(0, one, (0,), other, (0,))
        self.assertEqual(joined, (0, whole_book(one, other), (1, 2)))

    def test_by_the_words(self):
        chance = random.Random(364)
        for _ in range(150):
            one, other = [make_part(chance, chance.randint(1, 3), 2, chance.randint(0, 3)) for _ in (0, 1)]
            inputs = chance.randint(max(0, one[0] - len(other[2]), other[0] - len(one[2])), 3)
            feeds = tuple(chance.sample(range(inputs + len(other[2])), one[0]))
            others = tuple(chance.sample(range(inputs + len(one[2])), other[0]))
            joined = joined_part(inputs, one, feeds, other, others)
            self.assertTrue(is_part(joined))
            self.assertEqual(joined[0], inputs)
            many = len(one[1])
            self.assertEqual(joined[2], one[2] + tuple(many + cell for cell in other[2]))
            for first, (part, fed, yours, back) in ((0, (one, feeds, other, many)), (many, (other, others, one, 0))):
                for at, cell in enumerate(part[1]):
                    for rule, (told, factors) in enumerate(cell):
                        expected = {first + place: factors[place] for place in range(len(part[1]))}
                        for feed, factor in zip(fed, factors[len(part[1]):]):
                            place = many + len(other[1]) + feed if feed < inputs else back + yours[2][feed - inputs]
                            expected[place] = factor
                        row = tuple(expected.get(place, ZERO) for place in range(many + len(other[1]) + inputs))
                        self.assertEqual(joined[1][first + at][rule], (told, row))
