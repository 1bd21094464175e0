"""[16]: Course."""

import random
import unittest

from onelate.course import Course
from onelate.errors import NoAge, Nothing, Wrong
from tests.judge import (
    HALF, ONE, TWO, ZERO, deep, gone, make_book, make_fraction, make_row, make_start, odd_values)

BOOK = (((ONE, (ZERO, HALF)), ((3, 1), (ZERO, ZERO))), ((ZERO, ((-1, 1), ONE)),))
START = ((ZERO, ONE), (TWO, (4, 1)))


def state(course):
    """All that a course tells of itself."""
    cells = range(len(course.newest()))
    values = [course.values_of(cell) for cell in cells]
    stages = [[course.stage_of(cell, age) for age in range(len(values[cell]))] for cell in cells]
    return values, stages, course.newest(), course.pairs(), course.log()


class CourseTest(unittest.TestCase):
    def setUp(self):
        self.course = Course(BOOK, START)

    def wrong(self, place, call, *arguments):
        before = state(self.course)
        with self.assertRaises(Wrong, msg=repr(arguments)) as caught:
            call(*arguments)
        self.assertEqual(caught.exception.place, place, arguments)
        self.assertEqual(state(self.course), before)

    def nothing(self, call):
        before = state(self.course)
        with self.assertRaises(Nothing):
            call()
        self.assertEqual(state(self.course), before)

    def test_the_beginning(self):
        self.assertEqual(self.course.newest(), (ZERO, TWO))
        self.assertEqual(self.course.pairs(), START)
        self.assertEqual([self.course.values_of(0), self.course.values_of(1)], [[ONE, ZERO], [(4, 1), TWO]])
        self.assertEqual([self.course.stage_of(cell, age) for cell in (0, 1) for age in (0, 1)], [0, 0, 0, 0])
        self.assertEqual(self.course.log(), [])

    def test_turns(self):
        self.assertEqual(self.course.turn(0, 0, (1,)), (3, 1))
        self.assertEqual(self.course.turn(0, 0, ()), TWO)
        self.assertEqual(self.course.turn(1, 0, (0, 1)), ONE)
        self.assertEqual(self.course.turn(0, 1, ()), (3, 1))
        self.assertEqual(self.course.newest(), ((3, 1), ONE))
        self.assertEqual(self.course.pairs(), (((3, 1), TWO), (ONE, TWO)))
        self.assertEqual(self.course.values_of(0), [ONE, ZERO, (3, 1), TWO, (3, 1)])
        self.assertEqual([self.course.stage_of(0, age) for age in range(5)], [None, 1, 1, 0, 0])
        self.assertEqual(self.course.log(), [(0, 0, (0, 1)), (0, 0, (0, 0)), (1, 0, (1, 1)), (0, 1, (0, 0))])

    def test_aged_turns(self):
        self.assertEqual(self.course.aged(1, 0, (1, 0)), ONE)
        self.assertEqual(self.course.aged(1, 0, (0, 2)), (4, 1))
        self.assertEqual(self.course.aged(0, 0, (0, 1)), (3, 2))
        self.assertEqual(self.course.values_of(1), [(4, 1), TWO, ONE, (4, 1)])
        self.assertEqual(self.course.log(), [(1, 0, (1, 0)), (1, 0, (0, 2)), (0, 0, (0, 1))])
        self.assertEqual([self.course.stage_of(1, 0), self.course.stage_of(0, 0)], [1, 2])

    def test_courses_by_the_words(self):
        chance = random.Random(16)
        for _ in range(50):
            book = make_book(chance, chance.randint(1, 5), 3, lambda: make_fraction(chance, 9, 9), 0.5)
            start = make_start(chance, book)
            aged = make_row(chance, book, chance.randint(0, 15), chance.choice((1, 9)))
            made, values, stages = gone(book, start, aged)
            course = Course(book, start)
            for (cell, rule, ages), (value, _) in zip(aged, made):
                if max(ages) < 2 and chance.random() < 0.5:
                    late = tuple(at for at, age in enumerate(ages) if age == 1)
                    self.assertEqual(course.turn(cell, rule, late), value)
                else:
                    self.assertEqual(course.aged(cell, rule, ages), value)
            newest = tuple(row[-1] for row in values)
            pairs = tuple((row[-1], row[-2]) for row in values)
            told = [row[::-1] for row in stages]
            self.assertEqual(state(course), (values, told, newest, pairs, list(aged)))

    def test_no_age(self):
        for cell, ages in [(0, (2, 0)), (1, (0, 2)), (0, (2, 2)), (0, (60, 2)), (1, (1, 10 ** 39))]:
            before = state(self.course)
            with self.assertRaises(NoAge) as caught:
                self.course.aged(1, 0, ages)
            self.assertEqual(caught.exception.cell, cell)
            self.assertEqual(state(self.course), before)
        self.course.turn(1, 0, ())
        self.assertEqual(self.course.aged(1, 0, (0, 2)), (4, 1))

    def test_wrong_cells_and_rules(self):
        for call, last in ((self.course.turn, ()), (self.course.aged, (0, 0))):
            for cell in (2, -1, True, False, None, "0", (0,), [0], {0: 0}, 10 ** 39):
                self.wrong(0, call, cell, 0, last)
                self.wrong(0, call, cell, None, None)
            for cell, rule in ((0, 2), (1, 1), (0, -1), (0, True), (0, False), (0, None), (0, "0"), (1, (0,)), (1, [])):
                self.wrong(1, call, cell, rule, last)
                self.wrong(1, call, cell, rule, [])

    def test_wrong_late(self):
        for late in ((0,), (0, 1), (2,), (-1,), [1], [], None, 1, "", (True,), (1, 1), ("1",), (None,), {}, {1: 1}):
            self.wrong(2, self.course.turn, 0, 0, late)
        for late in ((1, 0), (0, 0), (False,), (False, 1), (0, True), (0, 1, 2), ((0,),), deep(20)):
            self.wrong(2, self.course.turn, 1, 0, late)
        self.wrong(2, self.course.turn, 0, 1, (1,))

    def test_wrong_ages(self):
        for ages in ((1, 0), (1, 1), (0,), (0, 0, 0), (), [0, 0], (0, -1), (0, True), (False, 0), (0, None), None, 0,
                     {0: 0, 1: 0}, "00", (0, (1,)), (-1, 0), (0, "1"), (2, 9)):
            self.wrong(2, self.course.aged, 0, 0, ages)
        self.wrong(2, self.course.aged, 0, 1, (0, 1))
        self.wrong(2, self.course.aged, 1, 0, (9, -1))

    def test_any_values(self):
        for thing in odd_values():
            self.wrong(0, self.course.turn, thing, 0, ())
            self.wrong(0, self.course.aged, thing, 0, (0, 0))
            self.wrong(1, self.course.turn, 0, thing, ())
            self.wrong(1, self.course.aged, 0, thing, (0, 0))
            if thing != (1,):
                self.wrong(2, self.course.turn, 0, 0, thing)
            if thing not in ((0, 0), (0, 2)):
                self.wrong(2, self.course.aged, 0, 0, thing)

    def test_wrong_books_and_starts(self):
        for thing in odd_values() + [(), ((),), BOOK[:1], list(BOOK), START]:
            self.wrong(0, Course, thing, START)
            self.wrong(0, Course, thing, None)
        for thing in odd_values() + [(), START[:1], START + START, list(START), (ZERO, ONE), BOOK, ((ZERO,),) * 2,
                                     ((ZERO, (2, 2)),) * 2, ((ZERO, True),) * 2]:
            self.wrong(1, Course, BOOK, thing)

    def test_what_is_refused_leaves_what_can_be_done_again(self):
        self.course.turn(0, 1, ())
        self.course.turn(1, 0, ())
        self.course.back()
        self.wrong(2, self.course.turn, 0, 1, (1,))
        self.wrong(2, self.course.aged, 0, 1, (1, 1))
        with self.assertRaises(NoAge):
            self.course.aged(1, 0, (5, 5))
        self.assertEqual(self.course.again(), (-1, 1))
        self.nothing(self.course.again)
        self.assertEqual(len(self.course.log()), 2)

    def test_back_and_again(self):
        self.nothing(self.course.back)
        self.nothing(self.course.again)
        states = [state(self.course)]
        for call, arguments in [(self.course.turn, (0, 0, (1,))), (self.course.aged, (1, 0, (2, 1))),
                                (self.course.turn, (0, 1, ()))]:
            call(*arguments)
            states.append(state(self.course))
        self.assertEqual(self.course.back(), (0, 1, (0, 0)))
        self.assertEqual(state(self.course), states[2])
        self.assertEqual(self.course.back(), (1, 0, (2, 1)))
        self.assertEqual(self.course.back(), (0, 0, (0, 1)))
        self.assertEqual(state(self.course), states[0])
        self.nothing(self.course.back)
        self.assertEqual(self.course.again(), (3, 1))
        self.assertEqual(state(self.course), states[1])
        self.assertEqual(self.course.back(), (0, 0, (0, 1)))
        self.assertEqual([self.course.again(), self.course.again()], [(3, 1), (3, 1)])
        self.assertEqual(state(self.course), states[2])
        self.assertEqual(self.course.again(), (3, 1))
        self.assertEqual(state(self.course), states[3])
        self.nothing(self.course.again)

    def test_again_behind_something_done(self):
        self.course.turn(0, 0, ())
        self.course.turn(1, 0, ())
        self.course.back()
        self.course.back()
        self.course.turn(0, 1, ())
        self.nothing(self.course.again)
        self.assertEqual(self.course.back(), (0, 1, (0, 0)))
        self.assertEqual(self.course.again(), (3, 1))
        self.nothing(self.course.again)
        self.course.back()
        self.course.aged(1, 0, (1, 1))
        self.nothing(self.course.again)

    def test_what_is_returned_may_be_changed(self):
        self.course.turn(0, 0, (1,))
        before = state(self.course)
        for returned in (self.course.values_of(0), self.course.values_of(1), self.course.log()):
            returned.append(None)
            del returned[0]
        self.assertEqual(state(self.course), before)
        self.assertIsNot(self.course.log(), self.course.log())

    def test_twins_go_their_own_ways(self):
        self.course.turn(0, 0, ())
        self.course.turn(1, 0, (1,))
        self.course.back()
        twin = self.course.twin()
        self.assertIsInstance(twin, Course)
        self.assertEqual(state(twin), state(self.course))
        here = state(self.course)
        self.assertEqual(twin.again(), TWO)
        self.assertEqual(state(self.course), here)
        there = state(twin)
        self.assertEqual(self.course.again(), TWO)
        self.assertEqual(self.course.back(), (1, 0, (0, 1)))
        self.course.turn(0, 1, ())
        self.assertEqual(state(twin), there)
        twin.back()
        twin.back()
        self.nothing(twin.back)
        self.assertEqual(state(twin), state(Course(BOOK, START)))
        self.assertEqual([twin.again(), twin.again()], [TWO, TWO])
        self.assertEqual(state(twin), there)
        self.assertEqual(self.course.log(), [(0, 0, (0, 0)), (0, 1, (0, 0))])
