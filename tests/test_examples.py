"""The examples of the document, line by line."""

import doctest
import unittest

STAGE_1 = r"""
>>> from onelate.books import reads_of, value_by, without_reads
>>> from onelate.fractions import compare, fraction, less, total
>>> from onelate.reader import read_book
>>> from onelate.texts import show_book
>>> [fraction(-4, 6), less((1, 2), (1, 3)), compare((1, 2), (2, 3)), total([])]
[(-2, 3), (1, 6), -1, (0, 1)]
>>> book, names = read_book("cell a # one\nrule 1/2 b - 3\nrule 0\ncell b\nrule - 1 a + 2/3 b")
>>> book[0]
(((-3, 1), ((0, 1), (1, 2))), ((0, 1), ((0, 1), (0, 1))))
>>> show_book(book, names)
'cell a\nrule - 3 + 1/2 b\nrule 0\ncell b\nrule - 1 a + 2/3 b'
>>> [reads_of(book[1][0]), value_by(book[1][0], ((1, 2), (3, 1))), without_reads(book, ((1, 0),))[1][0]]
[(0, 1), (3, 2), ((0, 1), ((0, 1), (2, 3)))]
"""

STAGE_2 = r"""
>>> from onelate.course import Course
>>> from onelate.distances import apart, distances, greatest_by
>>> from onelate.rows import as_aged, as_late, late_reads, ran
>>> from onelate.stages import pair_stages, stages_of
>>> zero, half, one = (0, 1), (1, 2), (1, 1)
>>> book = (((one, (zero, half)), ((3, 1), (zero, zero))), ((zero, ((-1, 1), zero)),))
>>> course = Course(book, ((zero, one), ((2, 1), (4, 1))))
>>> [course.turn(0, 0, (1,)), course.turn(1, 0, ()), course.aged(1, 0, (2, 0)), course.values_of(1)]
[(3, 1), (-3, 1), (-1, 1), [(4, 1), (2, 1), (-3, 1), (-1, 1)]]
>>> [course.log()[0], course.stage_of(1, 1), course.stage_of(1, 0), course.back(), course.pairs()]
[(0, 0, (0, 1)), 2, 1, (1, 0, (2, 0)), (((3, 1), (0, 1)), ((-3, 1), (2, 1)))]
>>> row = ((0, 0, (1,)), (1, 0, ()), (0, 1, ()))
>>> [as_late(book, as_aged(book, row)) == row, late_reads(row), stages_of(book, as_aged(book, row))]
[True, 1, [1, 2, None]]
>>> [pair_stages(book, as_aged(book, row)), ran(book, ((zero, zero), (zero, zero)), as_aged(book, row))]
[((None, 1), (2, 0)), (((3, 1), (1, 1)), ((-1, 1), (0, 1)))]
>>> starts = ((zero, one), ((2, 1), (4, 1))), ((zero, zero), (one, one))
>>> [distances(book, starts[0], starts[1], as_aged(book, row)), greatest_by((one, (3, 1)), apart(starts[0], starts[1]))]
[[(3, 2), (3, 2), (0, 1)], (1, 1)]
"""

STAGE_3 = r"""
>>> from onelate.choices import best_choice, burdens_by, sizes_of
>>> from onelate.heavylots import can_be_heavy, heavy_lot, is_heavy_lot, tied_lots
>>> from onelate.systems import solution_of, still_row
>>> from onelate.weights import is_weights, rate_by, weights_for, weights_of
>>> zero, one, two, half = (0, 1), (1, 1), (2, 1), (1, 2)
>>> solution_of(((two, one), (one, one)), ((3, 1), two))
((1, 1), (1, 1))
>>> [solution_of(((one, one), (one, one)), (one, two)), still_row(((one, two), (zero, one)))]
[None, None]
>>> ring = (((zero, (zero, two)),), ((one, ((1, 4), zero)), (zero, ((-1, 3), zero))))
>>> [burdens_by(ring, (one, one)), best_choice(ring, (one, one)), sizes_of(ring, (0, 1))]
[((2, 1), (1, 3)), (0, 1), (((0, 1), (2, 1)), ((1, 3), (0, 1)))]
>>> [is_weights(ring, ((5, 2), one)), is_weights(ring, (two, one)), weights_for(ring, (zero, one)), heavy_lot(ring)]
[True, False, ((6, 1), (3, 1)), None]
>>> [rate_by(ring, ((5, 2), one)), tied_lots(ring, (0, 1)), can_be_heavy(ring, (0, 1), (0, 1))]
[(5, 6), [(0, 1)], False]
>>> turn = (((zero, ((-1, 1), zero)),), ((zero, (half, zero)),))
>>> [weights_of(turn), heavy_lot(turn)[:2], is_heavy_lot(turn, ((0, 0), (0,), ((7, 2),)))]
[None, ((0, 0), (0,)), True]
"""

STAGE_4 = r"""
>>> from onelate.apart import apart_round, apart_start, is_apart_paper
>>> from onelate.cells import apart_cells, leading_steps, together_weights
>>> from onelate.far import far_round
>>> from onelate.fewest import fewest_late, late_reads_of
>>> zero, less, half = (0, 1), (-3, 5), (1, 2)
>>> book = (((zero, (zero, less, less)),), ((zero, (less, zero, less)),), ((zero, (less, less, zero)),))
>>> found = ((0, 0, 0), (0, 1, 2), ((1, 1), (1, 1), (1, 1)))
>>> apart_round(book, found, (0, 1, 2), (1, 1, 1))
((0, 0, ()), (1, 0, (0,)), (2, 0, (0, 1)))
>>> start = apart_start(book, found, (1, 1, 1))
>>> [start[0], is_apart_paper(book, (found, start, apart_round(book, found, (0, 1, 2), (1, 1, 1))))]
[((1, 1), (-1, 1)), True]
>>> [late_reads_of(book, found, (2, 0, 1), (1, -1, 1)), fewest_late(book, found)]
[3, (3, (0, 1, 2), (-1, -1, -1))]
>>> two = (((zero, ((-1, 1), zero, zero)),), ((zero, (half, half, zero)),), ((zero, (zero, zero, half)),))
>>> [apart_cells(two), leading_steps(two, 1)[1], together_weights(two)[:2]]
[(0, 1), ((1, 0, 0),), (None, None)]
>>> far_round(two, 1, (((0, 0, 0), (0,), ((3, 1),)), ((1, 0, 0),)))[1:]
(((0, 0, ()), (1, 0, ()), (2, 0, ()), (1, 0, ()), (1, 0, (0, 1))), (3, 1))
"""

STAGE_5 = r"""
>>> from onelate.boxes import box_of, end_of, high_by, is_own_box, lies_in, next_box
>>> from onelate.nearing import misses, nearing_round, rounds_for
>>> cell = (((0, 1), ((1, 2),)), ((1, 1), ((-1, 2),)))
>>> book = (cell,)
>>> [box_of(book), end_of(book), end_of((cell[:1],)), high_by(cell[1], (((0, 1), (1, 1)),))]
[(((0, 1), (1, 1)),), None, ((0, 1),), (1, 1)]
>>> [next_box(book, (((-1, 1), (2, 1)),)), lies_in(box_of(book), (((-1, 1), (1, 1)),)), is_own_box(book, [((0, 1), (1, 1))])]
[(((-1, 2), (3, 2)),), True, False]
>>> nearing_round(book)
((0, 1, ()), (0, 0, (0,)))
>>> start = (((1, 2), (1, 2)),)
>>> [misses(book, start, 0), misses(book, start, 1), rounds_for(book, start, (1, 10))]
[(((1, 2), (1, 2)),), (((1, 4), (1, 4)),), 3]
>>> pair = ((((2, 1), ((0, 1), (-1, 3))),), (((0, 1), ((1, 2), (0, 1))),))
>>> [end_of(pair), nearing_round(pair)]
[((12, 7), (6, 7)), ((0, 0, ()), (0, 0, (1,)), (1, 0, (0,)), (1, 0, ()))]
"""

STAGE_6 = r"""
>>> from onelate.bounds import ends_in, error_box, greatest_error
>>> from onelate.ever import come_to, ever_box
>>> from onelate.leaving import leaving_row, near_row
>>> book = ((((0, 1), ((1, 2),)), ((1, 1), ((-1, 2),))),)
>>> [ends_in(book, (((0, 1), (1, 1)),)), error_box(book, ((1, 4),)), greatest_error(book, (((-1, 1), (2, 1)),))]
[True, (((-1, 2), (3, 2)),), (1, 2)]
>>> start, other = (((1, 2), (1, 2)),), (((0, 1), (3, 1)),)
>>> [ever_box(book, start), ever_box(book, other)]
[(((0, 1), (1, 1)),), (((-1, 2), (3, 1)),)]
>>> [come_to(book, start, 0, 1), come_to(book, other, 0, 0), come_to(book, other, 0, 1)]
[None, ((0, 1, (1,)),), ()]
>>> near_row(book, start, 0, 1, (1, 10))
((0, 1, (0,)), (0, 0, (1,)), (0, 1, (0,)), (0, 0, (1,)), (0, 1, (0,)))
>>> [near_row(book, start, 0, 0, (1, 2)), leaving_row(book, start, (((0, 1), (9, 10)),)) == near_row(book, start, 0, 1, (1, 10))]
[(), True]
>>> [leaving_row(book, start, (((0, 1), (1, 1)),)), leaving_row(book, other, (((0, 1), (3, 1)),))]
[None, ((0, 1, (1,)),)]
"""

STAGE_7 = r"""
>>> from onelate.paces import is_pace_side, pace_side, stage_bound, stages_for
>>> from onelate.stagerows import stage_distances, stage_row, stage_starts
>>> from onelate.stillfar import left_behind, still_box, still_far
>>> zero, one, half = (0, 1), (1, 1), (1, 2)
>>> book = (((one, ((-1, 2),)),),)
>>> [pace_side(book, half)[0], pace_side(book, (2, 3))[0], is_pace_side(book, (2, 3), ("weights", (one,)))]
['heavy', 'weights', True]
>>> found = ((0,), (0,), (one,))
>>> stage_starts(book, found)
((((0, 1), (0, 1)),), (((-1, 1), (1, 1)),))
>>> [stage_row(book, found, 2), stage_distances(book, found, 2)]
[((0, 0, (0,)), (0, 0, (2,)), (0, 0, (0,)), (0, 0, (2,))), [{0: (1, 1)}, {0: (1, 2)}, {0: (1, 4)}]]
>>> [stage_bound((one,), (2, 3), (((3, 1), one),), 2), stages_for((one,), half, (((3, 1), one),), (1, 2))]
[((4, 3),), 3]
>>> [left_behind(book, ((zero, one),), ((0, 0, (0,)),), 1), still_box(book, ((one, zero),)), still_far(book, ((one,),), ((2, 3),))]
[(((1, 1), (0, 1)),), (((0, 1), (1, 1)),), ((1, 3),)]
"""

STAGE_8 = r"""
>>> from onelate.flat import flat_part, form_of
>>> from onelate.parts import inner_book, joined_part, parted, whole_book
>>> from onelate.pieces import least_pieces, parting_distances, pieces_of, shares_of
>>> from onelate.reaches import reach_of
>>> zero, half, one = (0, 1), (1, 2), (1, 1)
>>> first = ((zero, (zero, half, (1, 4))),)
>>> second = ((one, (half, zero, half)), (zero, (zero, zero, (-1, 1))))
>>> part = (1, (first, second), (0,))
>>> [reach_of(part, ((4, 1),)), pieces_of(part, 0), least_pieces(part, 0)]
[((3, 1), (4, 1)), [((2, 3),), ((3, 4),)], [((3, 4),)]]
>>> flat_part(part)
(1, ((((0, 1), ((0, 1), (3, 4))),),), (0,))
>>> shares_of((half, half), [(one, zero), (zero, one)])
((1, 2), (1, 2))
>>> parting_distances((half, half), [(one, zero), (zero, one)]) is None
True
>>> around = (1, (((zero, (zero, one)),),), (0,))
>>> book = whole_book(part, around)
>>> [len(book), book[0][0], parted(book, (0, 1)) == (part, around)]
[3, ((0, 1), ((0, 1), (1, 2), (1, 4))), True]
>>> form_of(joined_part(1, part, (0,), part, (1,)))
((((3, 4),),), (((9, 16),),))
"""

STAGE_9 = r"""
>>> from onelate.around import is_parting, parting_surroundings
>>> from onelate.needless import needless_rules, spare_part
>>> from onelate.stands import are_alike, stands_for, why_not
>>> zero, half, one = (0, 1), (1, 2), (1, 1)
>>> both = (2, (((zero, (zero, half, half)),),), (0,))
>>> either = (2, (((zero, (zero, one, zero)), (zero, (zero, zero, (-1, 1)))),), (0,))
>>> [stands_for(both, either), stands_for(either, both), why_not(both, either)]
[True, False, None]
>>> [are_alike(both, either), why_not(either, both)[:3]]
[False, ('piece', 0, ((0, 1), (1, 1)))]
>>> is_parting(either, both, parting_surroundings(either, both))
True
>>> more = (2, (either[1][0] + both[1][0],), (0,))
>>> [needless_rules(more), spare_part(more) == either]
[((0, 2),), True]
"""

STAGE_10 = r"""
>>> from onelate.even import energy, low_values, scales_of, squares_of
>>> from onelate.latealone import calm_prompt, late_alone
>>> from onelate.signs import is_minus_ring, signs_of
>>> f, none = (-3, 5), (0, 1)
>>> book = (((none, (none, f, f)),), ((none, (f, none, f)),), ((none, (f, f, none)),))
>>> [signs_of(book), scales_of(book), energy(book, ((1, 1), (-1, 1), none))]
[None, ((1, 1), (1, 1), (1, 1)), (4, 5)]
>>> squares_of(book)
(((1, 1), ((3, 5), (3, 5))), ((16, 25), ((3, 8),)), ((11, 20), ()))
>>> [is_minus_ring(book, ((0, 0, 1), (1, 0, 2), (0, 0, 2))), is_minus_ring(book, ((0, 0, 1), (1, 0, 0)))]
[True, False]
>>> [calm_prompt(book), late_alone(book)[0] == squares_of(book), late_alone(book)[1][:2]]
[True, True, ((0, 0, 0), (0, 1, 2))]
>>> pair = (((none, (none, (-2, 1))),), ((none, ((-1, 8), none)),))
>>> [signs_of(pair), scales_of(pair), calm_prompt(pair), late_alone(pair)]
[(1, -1), ((1, 1), (16, 1)), True, None]
"""

STAGE_11 = r"""
>>> from onelate.damping import damped_book, damping_of, is_stiff_lot, stiff_lot
>>> from onelate.mends import heals, heavy_without, least_bars, least_holds, least_reads
>>> zero, one, two, half = (0, 1), (1, 1), (2, 1), (1, 2)
>>> book = (((zero, (zero, two)), (zero, (half, zero))), ((one, (one, zero)),))
>>> [least_reads(book, 2), least_bars(book, 1), least_holds(book, 3)]
[[((0, 1),), ((1, 0),)], [((0, 0),)], [(0,), (1,)]]
>>> [heals(book, "holds", (1,)), heavy_without(book, "reads", ((0, 0),))[:2], least_reads((((one, (half,)),),), 3)]
[True, ((0, 0), (0, 1)), [()]]
>>> back = (((one, ((-3, 1),)),),)
>>> [damped_book(back, half), stiff_lot(back), damping_of(back) is None]
[((((1, 2), ((-1, 1),)),),), None, False]
>>> [is_stiff_lot((((zero, (one,)),),), ((0,), (0,), (two,))), damping_of((((zero, (two,)),),)), is_stiff_lot(back, ((0,), (0,), (one,)))]
[True, None, False]
"""

STAGE_12 = r"""
>>> from onelate.desk import Desk
>>> from onelate.works import Works
>>> half, two = (((0, 1), ((1, 2),)),), (((0, 1), ((2, 1),)),)
>>> works = Works()
>>> [works.put_book("a", (half,)), works.add_duty(("pace", "a", (2, 3))), works.names(), works.duties()]
[None, None, {'a': 'book'}, [('pace', 'a', (2, 3))]]
>>> [works.drop_duty(0), works.put_book("a", (two,)), works.back(), works.called("a") == (half,)]
[('pace', 'a', (2, 3)), None, None, True]
>>> desk = Desk("cell a\nrule 1 + 1/2 a")
>>> [desk.execute(line) for line in ["keep together", "rule a 1 a", "rule a - 1/2 a", "ends", "bar a 0", "undo", "duties"]]
[['done'], ['refused'], ['done'], ['a -1 2'], ['done'], ['done'], ['keep together']]
"""


class ExamplesTest(unittest.TestCase):
    def go(self, text, many):
        test = doctest.DocTestParser().get_doctest(text, {}, self.id(), None, None)
        told = []
        result = doctest.DocTestRunner(verbose=False).run(test, out=told.append)
        self.assertEqual((result.failed, result.attempted), (0, many), "".join(told))

    def test_stage_1(self):
        self.go(STAGE_1, 9)

    def test_stage_2(self):
        self.go(STAGE_2, 14)

    def test_stage_3(self):
        self.go(STAGE_3, 13)

    def test_stage_4(self):
        self.go(STAGE_4, 14)

    def test_stage_5(self):
        self.go(STAGE_5, 11)

    def test_stage_6(self):
        self.go(STAGE_6, 11)

    def test_stage_7(self):
        self.go(STAGE_7, 11)

    def test_stage_8(self):
        self.go(STAGE_8, 16)

    def test_stage_9(self):
        self.go(STAGE_9, 11)

    def test_stage_10(self):
        self.go(STAGE_10, 11)

    def test_stage_11(self):
        self.go(STAGE_11, 9)

    def test_stage_12(self):
        self.go(STAGE_12, 8)
