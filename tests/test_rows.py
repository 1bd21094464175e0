"""[17]: rows."""

import random
import unittest

from onelate.errors import NoTurn, NotLate
from onelate.forms import is_aged_row, is_row, is_start
from onelate.rows import as_aged, as_late, late_reads, ran, worked_out
from tests.judge import HALF, ONE, TWO, ZERO, gone, make_book, make_fraction, make_row, make_start

OWN = (((ONE, (HALF,)),),)
BOOK = (((ONE, (ZERO, HALF)), ((3, 1), (ZERO, ZERO))), ((ZERO, ((-1, 1), ONE)),))
START = ((ZERO, ONE), (TWO, (4, 1)))


class RowsTest(unittest.TestCase):
    def test_there(self):
        row = ((0, 0, (1,)), (0, 0, ()), (0, 1, ()), (1, 0, (0,)), (1, 0, (1,)), (1, 0, (0, 1)))
        aged = ((0, 0, (0, 1)), (0, 0, (0, 0)), (0, 1, (0, 0)), (1, 0, (1, 0)), (1, 0, (0, 1)), (1, 0, (1, 1)))
        self.assertEqual(as_aged(BOOK, row), aged)
        self.assertEqual(as_late(BOOK, aged), row)
        self.assertEqual([as_aged(OWN, ((0, 0, (0,)),)), as_late(OWN, ((0, 0, (1,)),))],
                         [((0, 0, (1,)),), ((0, 0, (0,)),)])

    def test_empty_rows(self):
        self.assertEqual([as_aged(BOOK, ()), as_late(BOOK, ()), late_reads(())], [(), (), 0])
        self.assertEqual([worked_out(BOOK, START, ()), ran(BOOK, START, ())], [[], START])

    def test_there_and_back(self):
        chance = random.Random(17)
        for _ in range(50):
            book = make_book(chance, chance.randint(1, 5), 3, lambda: make_fraction(chance, 9, 9))
            aged = make_row(chance, book, chance.randint(0, 12))
            row = as_late(book, aged)
            self.assertTrue(is_row(book, row) and is_aged_row(book, aged))
            self.assertEqual(as_aged(book, row), aged)
            self.assertEqual(late_reads(row), sum(sum(ages) for _, _, ages in aged))

    def test_not_late_with_the_first_turn(self):
        late, older = (1, 0, (1, 1)), (1, 0, (0, 2))
        for aged, index in [((older,), 0), ((late, older, late, older), 1), ((late, late, late, (0, 0, (0, 60))), 3)]:
            with self.assertRaises(NotLate) as caught:
                as_late(BOOK, aged)
            self.assertEqual(caught.exception.index, index)

    def test_not_late_is_told_of_what_could_not_be_done_too(self):
        with self.assertRaises(NotLate) as caught:
            as_late(BOOK, ((0, 1, (0, 0)), (0, 0, (0, 9))))
        self.assertEqual(caught.exception.index, 1)

    def test_late_reads(self):
        self.assertEqual(late_reads(((0, 0, (1,)), (1, 0, (0, 1)), (1, 0, ()))), 3)
        self.assertEqual(late_reads(((0, 0, ()),)), 0)

    def test_values_turn_by_turn(self):
        aged = ((0, 0, (0, 1)), (1, 0, (0, 0)), (1, 0, (2, 2)), (0, 1, (0, 0)))
        self.assertEqual(worked_out(BOOK, START, aged), [(3, 1), (-1, 1), (3, 1), (3, 1)])
        self.assertEqual(ran(BOOK, START, aged), (((3, 1), (3, 1)), ((3, 1), (-1, 1))))

    def test_a_cell_that_reads_itself(self):
        self.assertEqual(worked_out(OWN, ((ZERO, TWO),), ((0, 0, (1,)), (0, 0, (0,)), (0, 0, (3,)))),
                         [TWO, TWO, TWO])
        self.assertEqual(ran(OWN, ((ZERO, TWO),), ((0, 0, (0,)),)), ((ONE, ZERO),))

    def test_by_the_words(self):
        chance = random.Random(18)
        for _ in range(60):
            book = make_book(chance, chance.randint(1, 5), 3, lambda: make_fraction(chance, 9, 9))
            start = make_start(chance, book)
            aged = make_row(chance, book, chance.randint(0, 15), chance.choice((1, 2, 9)))
            made, values, _ = gone(book, start, aged)
            self.assertEqual(worked_out(book, start, aged), [value for value, _ in made])
            self.assertEqual(ran(book, start, aged), tuple((row[-1], row[-2]) for row in values))
            self.assertTrue(is_start(book, ran(book, start, aged)))

    def test_no_turn_with_the_first_one(self):
        fine = (1, 0, (0, 1))
        for aged, index in [
                (((0, 0, (0, 2)),), 0), ((fine, (0, 0, (0, 2)), (0, 0, (0, 4))), 2), ((fine, (0, 0, (0, 3))), 1),
                ((fine, fine, (1, 0, (2, 0)), fine), 2), ((fine, (1, 0, (1, 60))), 1)]:
            for call in (worked_out, ran):
                with self.assertRaises(NoTurn) as caught:
                    call(BOOK, START, aged)
                self.assertEqual(caught.exception.index, index)
        self.assertEqual(len(worked_out(BOOK, START, (fine, (0, 0, (0, 2))))), 2)

    def test_lists_are_new(self):
        aged = ((0, 1, (0, 0)),)
        worked_out(BOOK, START, aged).append(1)
        self.assertEqual(worked_out(BOOK, START, aged), [(3, 1)])
