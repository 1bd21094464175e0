"""The examples of the document, line by line, as far as what they speak of is there."""

import doctest
import unittest

STAGE_1 = r"""
>>> from onelate.books import reads_of, value_by, without_reads
>>> from onelate.fractions import compare, fraction, less, total
>>> from onelate.reader import read_book
>>> from onelate.texts import show_book
>>> [fraction(-4, 6), less((1, 2), (1, 3)), compare((1, 2), (2, 3)), total([])]
[(-2, 3), (1, 6), -1, (0, 1)]
>>> book, names = read_book("cell a # one\nrule 1/2 b - 3\nrule 0\ncell b\nrule - 1 a + 2/3 b")
>>> book[0]
(((-3, 1), ((0, 1), (1, 2))), ((0, 1), ((0, 1), (0, 1))))
>>> show_book(book, names)
'cell a\nrule - 3 + 1/2 b\nrule 0\ncell b\nrule - 1 a + 2/3 b'
>>> [reads_of(book[1][0]), value_by(book[1][0], ((1, 2), (3, 1))), without_reads(book, ((1, 0),))[1][0]]
[(0, 1), (3, 2), ((0, 1), ((0, 1), (2, 3)))]
"""

STAGE_2 = r"""
>>> from onelate.course import Course
>>> from onelate.distances import apart, distances, greatest_by
>>> from onelate.rows import as_aged, as_late, late_reads, ran
>>> from onelate.stages import pair_stages, stages_of
>>> zero, half, one = (0, 1), (1, 2), (1, 1)
>>> book = (((one, (zero, half)), ((3, 1), (zero, zero))), ((zero, ((-1, 1), zero)),))
>>> course = Course(book, ((zero, one), ((2, 1), (4, 1))))
>>> [course.turn(0, 0, (1,)), course.turn(1, 0, ()), course.aged(1, 0, (2, 0)), course.values_of(1)]
[(3, 1), (-3, 1), (-1, 1), [(4, 1), (2, 1), (-3, 1), (-1, 1)]]
>>> [course.log()[0], course.stage_of(1, 1), course.stage_of(1, 0), course.back(), course.pairs()]
[(0, 0, (0, 1)), 2, 1, (1, 0, (2, 0)), (((3, 1), (0, 1)), ((-3, 1), (2, 1)))]
>>> row = ((0, 0, (1,)), (1, 0, ()), (0, 1, ()))
>>> [as_late(book, as_aged(book, row)) == row, late_reads(row), stages_of(book, as_aged(book, row))]
[True, 1, [1, 2, None]]
>>> [pair_stages(book, as_aged(book, row)), ran(book, ((zero, zero), (zero, zero)), as_aged(book, row))]
[((None, 1), (2, 0)), (((3, 1), (1, 1)), ((-1, 1), (0, 1)))]
>>> starts = ((zero, one), ((2, 1), (4, 1))), ((zero, zero), (one, one))
>>> [distances(book, starts[0], starts[1], as_aged(book, row)), greatest_by((one, (3, 1)), apart(starts[0], starts[1]))]
[[(3, 2), (3, 2), (0, 1)], (1, 1)]
"""

STAGE_3 = r"""
>>> from onelate.choices import best_choice, burdens_by, sizes_of
>>> from onelate.systems import solution_of, still_row
>>> from onelate.weights import is_weights, rate_by, weights_for, weights_of
>>> zero, one, two, half = (0, 1), (1, 1), (2, 1), (1, 2)
>>> solution_of(((two, one), (one, one)), ((3, 1), two))
((1, 1), (1, 1))
>>> [solution_of(((one, one), (one, one)), (one, two)), still_row(((one, two), (zero, one)))]
[None, None]
>>> ring = (((zero, (zero, two)),), ((one, ((1, 4), zero)), (zero, ((-1, 3), zero))))
>>> [burdens_by(ring, (one, one)), best_choice(ring, (one, one)), sizes_of(ring, (0, 1))]
[((2, 1), (1, 3)), (0, 1), (((0, 1), (2, 1)), ((1, 3), (0, 1)))]
>>> [is_weights(ring, ((5, 2), one)), is_weights(ring, (two, one)), weights_for(ring, (zero, one))]
[True, False, ((6, 1), (3, 1))]
>>> [rate_by(ring, ((5, 2), one))]
[(5, 6)]
>>> turn = (((zero, ((-1, 1), zero)),), ((zero, (half, zero)),))
>>> [weights_of(turn)]
[None]
"""


class ExamplesTest(unittest.TestCase):
    def go(self, text, many):
        test = doctest.DocTestParser().get_doctest(text, {}, self.id(), None, None)
        told = []
        result = doctest.DocTestRunner(verbose=False).run(test, out=told.append)
        self.assertEqual((result.failed, result.attempted), (0, many), "".join(told))

    def test_stage_1(self):
        self.go(STAGE_1, 9)

    def test_stage_2(self):
        self.go(STAGE_2, 14)

    def test_stage_3_as_far_as_weights(self):
        self.go(STAGE_3, 12)
