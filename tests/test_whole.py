"""[1] to [9]: what the document promises of the whole program, by what several modules tell of the same book."""

import copy
import importlib
import random
import unittest
from fractions import Fraction

from onelate.apart import apart_round, apart_start
from onelate.around import parting_surroundings
from onelate.books import renumbered
from onelate.bounds import ends_in, error_box
from onelate.boxes import box_of, end_of, is_own_box
from onelate.cells import apart_cells, leading_steps, together_weights
from onelate.course import Course
from onelate.damping import damping_of, stiff_lot
from onelate.desk import Desk
from onelate.distances import distances, greatest_by
from onelate.errors import Heavy, LateError, NotTold
from onelate.even import low_values, scales_of, squares_of
from onelate.ever import ever_box
from onelate.far import far_round
from onelate.flat import flat_part, form_of
from onelate.heavylots import heavy_lot, is_heavy_lot
from onelate.latealone import calm_prompt, late_alone
from onelate.leaving import near_row
from onelate.mends import heals, heavy_without, least_bars, least_holds, least_reads
from onelate.nearing import misses, nearing_round
from onelate.needless import spare_part
from onelate.parts import parted, whole_book
from onelate.paces import pace_between, pace_side, stage_bound
from onelate.reader import read_book
from onelate.rows import as_aged, ran, worked_out
from onelate.signs import minus_ring, signs_of
from onelate.stagerows import stage_distances, stage_row, stage_starts
from onelate.stages import stages_of
from onelate.stands import are_alike, stands_for, why_not
from onelate.stillfar import still_box
from onelate.texts import show_book
from onelate.weights import is_weights, rate_by, weights_for, weights_of
from onelate.works import Works
from tests.judge import (
    HALF, ONE, TWO, ZERO, as_tuple, books_with_weights, great_book, has_weights, heavy_books, make_row, make_start,
    number, numbers, plain, plain_values, sides, some_books)
from tests.test_interface import CLASSES, FUNCTIONS, of_file
from tests.test_latealone import close_book, mixed_books
from tests.test_stands import BOTH, EITHER, HEAVY

MINUS = (-1, 1)
NAMES = ("a", "b", "c", "d", "e", "f")
CALM = (((ONE, (ZERO, HALF)), (ZERO, ((1, 3), ZERO))), ((TWO, ((-1, 2), ZERO)),))
WILD = (((ONE, (ZERO, TWO)), (ZERO, (HALF, ZERO))), ((ONE, (ONE, ZERO)),))
SAME = (((ONE, (ZERO, (-1, 2))),), ((ZERO, ((-1, 2), ZERO)),))
FOUND = ((0, 0), (0, 1), (TWO, TWO))
START, OTHER = ((ZERO, ONE), (TWO, ZERO)), ((ONE, ONE), (ZERO, HALF))
ROW, AGED = ((0, 0, (1,)), (1, 0, ())), ((0, 0, (0, 1)), (1, 0, (0, 0)))
BOX = ((MINUS, TWO), (MINUS, (5, 1)))
PIECES = [(ONE, ZERO), (ZERO, ONE)]
PART = (1, (((ZERO, (HALF, ONE)), (ONE, ((1, 3), ONE))),), (0,))
# For each function of the interface arguments of a call, by its file and name.
CALLS = {
    "fractions": {"fraction": (4, -6), "plus": (ONE, HALF), "less": (ONE, HALF), "times": (TWO, HALF),
                  "over": (ONE, TWO), "size_of": (MINUS,), "total": ([ONE, HALF],), "greatest": ([ONE, HALF],),
                  "least": ([ONE, HALF],), "compare": (ONE, HALF)},
    "forms": {"is_integer": (3,), "is_fraction": (HALF,), "is_rule": (2, CALM[0][0]), "is_book": (CALM,),
              "is_start": (CALM, START), "is_turn": (CALM, ROW[0]), "is_row": (CALM, ROW), "is_round": (CALM, ROW),
              "is_aged_turn": (CALM, AGED[0]), "is_aged_row": (CALM, AGED), "is_choice": (CALM, (1, 0)),
              "is_lot": (CALM, (0, 1)), "is_box": (CALM, BOX), "is_name": ("abc",), "are_names": (CALM, ("a", "b"))},
    "books": {"value_by": (CALM[0][0], (ONE, TWO)), "reads_of": (CALM[0][0],), "plain_book": (CALM,),
              "chosen_book": (CALM, (1, 0)), "scaled_book": (CALM, HALF), "with_errors": (CALM, (ONE, ZERO)),
              "renumbered": (CALM, (1, 0)), "with_rule": (CALM, 0, CALM[0][0]), "without_rules": (CALM, ((0, 0),)),
              "without_reads": (CALM, ((0, 1),))},
    "texts": {"show_book": (CALM, ("a", "b"))}, "reader": {"read_book": ("cell a\nrule 1 a",)},
    "rows": {"as_aged": (CALM, ROW), "as_late": (CALM, AGED), "late_reads": (ROW,), "worked_out": (CALM, START, AGED),
             "ran": (CALM, START, AGED)},
    "stages": {"stages_of": (CALM, AGED), "pair_stages": (CALM, AGED)},
    "distances": {"apart": (START, OTHER), "distances": (CALM, START, OTHER, AGED),
                  "greatest_by": ((ONE, TWO), START)},
    "systems": {"solution_of": (((ONE, HALF), (ZERO, ONE)), (ONE, TWO)), "still_row": (((ONE, HALF), (TWO, ONE)),)},
    "choices": {"burdens_by": (CALM, (ONE, TWO)), "best_choice": (CALM, (ONE, TWO)), "all_choices": (CALM,),
                "sizes_of": (CALM, (1, 0))},
    "weights": {"weights_of": (CALM,), "is_weights": (CALM, (ONE, ONE)), "weights_for": (CALM, (ONE, ZERO)),
                "rate_by": (CALM, (ONE, TWO))},
    "heavylots": {"tied_lots": (WILD, (0, 0)), "heavy_lot": (WILD,), "can_be_heavy": (WILD, (0, 0), (0, 1)),
                  "is_heavy_lot": (WILD, FOUND)},
    "apart": {"apart_start": (WILD, FOUND, (1, -1)), "apart_round": (WILD, FOUND, (1, 0), (1, -1)),
              "is_apart_paper": (WILD, FOUND)},
    "fewest": {"late_reads_of": (WILD, FOUND, (1, 0), (1, -1)), "fewest_late": (WILD, FOUND)},
    "cells": {"apart_cells": (WILD,), "together_weights": (CALM,), "leading_steps": (WILD, 0),
              "is_leading": (WILD, 0, (FOUND, ()))},
    "far": {"far_round": (WILD, 0, (FOUND, ()))},
    "boxes": {"high_by": (CALM[0][0], BOX), "low_by": (CALM[0][0], BOX), "next_box": (CALM, BOX), "box_of": (CALM,),
              "lies_in": (BOX, BOX), "is_own_box": (CALM, BOX), "end_of": (SAME,)},
    "nearing": {"nearing_round": (CALM,), "misses": (CALM, START, 3), "rounds_for": (CALM, START, HALF)},
    "bounds": {"ends_in": (CALM, BOX), "error_box": (CALM, (ONE, ZERO)), "greatest_error": (CALM, BOX)},
    "ever": {"ever_box": (CALM, START), "is_ever_box": (CALM, START, BOX), "come_to": (CALM, START, 0, 1)},
    "leaving": {"near_row": (CALM, START, 0, 1, HALF), "leaving_row": (CALM, START, BOX)},
    "paces": {"pace_side": (CALM, HALF), "is_pace_side": (CALM, HALF, ("weights", (ONE, ONE))),
              "pace_between": (CALM, (1, 9)), "stage_bound": ((ONE, TWO), HALF, START, 3),
              "stages_for": ((ONE, TWO), HALF, START, (1, 9))},
    "stagerows": {"stage_starts": (WILD, FOUND), "stage_row": (WILD, FOUND, 2), "stage_distances": (WILD, FOUND, 2)},
    "stillfar": {"left_behind": (CALM, START, AGED, 1), "still_box": (CALM, START), "still_far": (CALM, START, (ONE, ONE))},
    "parts": {"is_part": (PART,), "is_surroundings": (PART, PART), "inner_book": (PART,), "whole_book": (PART, PART),
              "parted": (CALM, (0,)), "joined_part": (1, PART, (0,), PART, (1,))},
    "reaches": {"reach_of": (PART, (HALF,))},
    "pieces": {"pieces_of": (PART, 0), "least_pieces": (PART, 0), "shares_of": ((HALF, HALF), PIECES),
               "parting_distances": ((ONE, ONE), PIECES)},
    "flat": {"form_of": (PART,), "flat_part": (PART,)},
    "stands": {"stands_for": (BOTH, EITHER), "are_alike": (BOTH, EITHER), "why_not": (EITHER, BOTH)},
    "around": {"parting_surroundings": (EITHER, BOTH), "is_parting": (EITHER, BOTH, PART)},
    "needless": {"needless_rules": (PART,), "spare_part": (PART,)},
    "signs": {"signs_of": (SAME,), "minus_ring": (CALM,), "is_minus_ring": (CALM, ((0, 0, 1), (1, 0, 0)))},
    "even": {"scales_of": (SAME,), "squares_of": (SAME,), "low_values": (SAME,), "energy": (SAME, (ONE, TWO))},
    "latealone": {"calm_prompt": (SAME,), "late_alone": (SAME,)},
    "mends": {"least_reads": (WILD, 2), "least_bars": (WILD, 2), "least_holds": (WILD, 2),
              "heals": (WILD, "holds", (0,)), "heavy_without": (WILD, "bars", ((0, 1),))},
    "damping": {"damped_book": (CALM, HALF), "damping_of": (CALM,), "stiff_lot": (WILD,),
                "is_stiff_lot": (WILD, FOUND)},
}


def spoil(thing):
    """Changes each list and dict in it."""
    parts = list(thing.values()) if isinstance(thing, dict) else thing
    for part in parts if isinstance(thing, (list, tuple, dict)) else ():
        spoil(part)
    if isinstance(thing, list):
        thing.append(None)
    if isinstance(thing, dict):
        thing["more"] = None


def changeable(thing):
    """All lists and dicts in it."""
    some = [thing] if isinstance(thing, (list, dict)) else []
    parts = list(thing.values()) if isinstance(thing, dict) else thing
    for part in parts if isinstance(thing, (list, tuple, dict)) else ():
        some.extend(changeable(part))
    return some


class CallsTest(unittest.TestCase):
    """[3]: of each function of the interface."""

    def test_each_function_has_a_call(self):
        self.assertEqual(
            {name: sorted(calls) for name, calls in CALLS.items()},
            {name: sorted(words.split()[0] for words in functions) for name, functions in FUNCTIONS.items()})

    def test_arguments_stay_and_results_are_new(self):
        for name, calls in CALLS.items():
            for function, arguments in calls.items():
                call = getattr(of_file(name), function)
                before = copy.deepcopy(arguments)
                told = call(*arguments)
                self.assertEqual(arguments, before, function)
                kept = copy.deepcopy(told)
                some = changeable(told)
                self.assertEqual(len({id(one) for one in some + changeable(arguments)}),
                                 len(some) + len(changeable(arguments)), function)
                spoil(told)
                self.assertEqual(arguments, before, function)
                self.assertEqual(call(*copy.deepcopy(arguments)), kept, function)

    def test_truths_are_truths(self):
        for name, calls in CALLS.items():
            for function, arguments in calls.items():
                told = getattr(of_file(name), function)(*arguments)
                asks = function.startswith(("is_", "are_", "can_be")) or function in (
                    "lies_in", "ends_in", "stands_for", "calm_prompt", "heals")
                self.assertEqual(isinstance(told, bool), asks, function)

    def test_parameters_are_positional(self):
        """Lists, tuples and keywords aside, each call above is by place alone; no parameter has a default."""
        for name, functions in FUNCTIONS.items():
            for words in functions:
                call = getattr(of_file(name), words.split()[0])
                self.assertIsNone(call.__defaults__)

    def test_heavy_everywhere(self):
        """[4]: where a point says HEAVY, found is a heavy lot of the book, or of the part's inner book."""
        many = 0
        for name, function, more in [
                ("weights", "weights_for", ((ONE, ONE),)), ("boxes", "box_of", ()), ("boxes", "end_of", ()),
                ("nearing", "nearing_round", ()), ("nearing", "misses", (START, 1)),
                ("nearing", "rounds_for", (START, ONE)), ("bounds", "ends_in", (BOX,)),
                ("bounds", "error_box", ((ONE, ONE),)), ("bounds", "greatest_error", (BOX,)),
                ("ever", "ever_box", (START,)), ("ever", "is_ever_box", (START, BOX)),
                ("ever", "come_to", (START, 0, 0)), ("leaving", "near_row", (START, 0, 0, ONE)),
                ("leaving", "leaving_row", (START, BOX)), ("stillfar", "still_box", (START,)),
                ("stillfar", "still_far", (START, (ONE, ONE)))]:
            with self.assertRaises(Heavy) as caught:
                getattr(of_file(name), function)(WILD, *more)
            self.assertIs(is_heavy_lot(WILD, caught.exception.found), True)
            many += 1
        for name, function, more in [
                ("reaches", "reach_of", ((ONE, ONE),)), ("pieces", "pieces_of", (0,)), ("pieces", "least_pieces", (0,)),
                ("flat", "form_of", ()), ("flat", "flat_part", ()), ("needless", "needless_rules", ()),
                ("needless", "spare_part", ())]:
            with self.assertRaises(Heavy) as caught:
                getattr(of_file(name), function)(HEAVY, *more)
            self.assertEqual(caught.exception.found[:2], ((0,), (0,)))
            many += 1
        self.assertEqual(many, 23)


class ErrorsTest(unittest.TestCase):
    """[4]: of each error class."""

    def test_each_is_a_late_error_and_no_other(self):
        module = of_file("errors")
        for name, told in CLASSES["errors"].items():
            one = getattr(module, name)
            self.assertTrue(issubclass(one, ValueError))
            if name != "LateError":
                self.assertEqual(one.__bases__, (LateError,))
            things = [object() for _ in told.get("__init__", "").split()]
            error = one(*things)
            for field, thing in zip(told.get("__init__", "").split(), things):
                self.assertIs(getattr(error, field), thing)

    def test_every_module_is_there(self):
        for name in list(FUNCTIONS) + list(CLASSES):
            self.assertEqual(importlib.import_module("onelate." + name).__name__, "onelate." + name)


class OneLateTest(unittest.TestCase):
    """[5]: weights or a heavy lot, and what several modules tell of either."""

    def test_just_one_of_both(self):
        seen = []
        for _, book in some_books(51, 120, 4):
            told = weights_of(book) is not None
            seen.append(told)
            self.assertIs(told, has_weights(book))
            self.assertIs(heavy_lot(book) is None, told)
            self.assertEqual(pace_side(book, ONE)[0], "weights" if told else "heavy")
            self.assertIs(apart_cells(book) == (), told)
            self.assertIs(None in together_weights(book), not told)
            self.assertIs(all(leading_steps(book, cell) is None for cell in range(len(book))), told)
            for word, least in (("reads", least_reads), ("bars", least_bars), ("holds", least_holds)):
                self.assertIs(heals(book, word, ()), told)
                self.assertEqual(heavy_without(book, word, ()), heavy_lot(book))
                self.assertEqual(least(book, 0), [()] if told else [])
            self.assertIs(self.has_box(book), told)
            desk = Desk(show_book(book, NAMES[:len(book)]))
            self.assertEqual(desk.execute("keep together"), ["done"] if told else ["refused"])
            self.assertEqual(desk.execute("ends") == ["heavy"], not told)
            self.in_parts(book, told)
            if told:
                self.assertIsNotNone(damping_of(book))
            if stiff_lot(book) is not None:
                self.assertFalse(told)
        self.assertGreater(min(seen.count(True), seen.count(False)), 30)

    def has_box(self, book):
        try:
            self.assertIs(is_own_box(book, box_of(book)), True)
        except Heavy as error:
            self.assertIs(is_heavy_lot(book, error.found), True)
            return False
        return True

    def in_parts(self, book, told):
        """Cut in two in every place, the whole book of both is the book, its cells renumbered."""
        for at in range(1, len(book)):
            part, around = parted(book, tuple(range(at)))
            self.assertEqual(whole_book(part, around), book)
            last, first = parted(book, tuple(range(at, len(book))))
            turned = whole_book(last, first)
            self.assertEqual(turned, renumbered(book, tuple(range(at, len(book))) + tuple(range(at))))
            self.assertIs(weights_of(turned) is not None, told)

    def test_with_weights_it_comes_together(self):
        """By any aged row: no distance is above the greatest quotient of the starts' times the cell's weight."""
        for chance, book in books_with_weights(52, 60, 4):
            weights = weights_of(book)
            one, other = make_start(chance, book), make_start(chance, book)
            row = make_row(chance, book, 60, 9)
            made = numbers(distances(book, one, other, row))
            first = tuple(
                tuple(as_tuple(number(mine) - number(yours)) for mine, yours in zip(*pairs)) for pairs in zip(one, other))
            most = number(greatest_by(weights, first))
            rate = number(rate_by(book, weights))
            self.assertLess(rate, 1)
            for (cell, _, _), distance, stage in zip(row, made, stages_of(book, row)):
                bound = 0 if stage is None else most * rate ** stage * number(weights[cell])
                self.assertLessEqual(distance, bound)

    def test_with_a_heavy_lot_one_late_read_keeps_apart(self):
        """For each order there is a round; the two courses may stand anywhere, only their difference counts."""
        for chance, book, found in heavy_books(53, 40):
            order = tuple(chance.sample(range(len(book)), len(book)))
            signs = tuple(chance.choice((1, -1)) for _ in found[1])
            row = as_aged(book, apart_round(book, found, order, signs))
            far = apart_start(book, found, signs)
            one = make_start(chance, book)
            other = tuple(
                tuple(as_tuple(number(value) + number(more)) for value, more in zip(*pairs)) for pairs in zip(one, far))
            self.assertTrue(all(age in (0, 1) for _, _, ages in row for age in ages))
            bulks = dict(zip(found[1], numbers(found[2])))
            for (cell, _, _), distance in zip(row * 4, numbers(distances(book, one, other, row * 4))):
                self.assertGreaterEqual(distance, bulks.get(cell, 0))

    def test_a_cell_that_leads_to_a_lot(self):
        """[5] and [26]: by its own round each cell that does not come together stays apart."""
        for chance, book, _ in heavy_books(54, 30):
            for cell in apart_cells(book):
                start, row, gap = far_round(book, cell, leading_steps(book, cell))
                values = plain_values(book, start, row * 3)
                self.assertGreaterEqual(abs(values[cell][-1] - values[cell][-2]), number(gap))


class EndsTest(unittest.TestCase):
    """[6]: the own box, and what of it several modules tell."""

    def test_one_own_box(self):
        for chance, book in books_with_weights(61, 60, 4):
            box = box_of(book)
            self.assertIs(is_own_box(book, box), True)
            self.assertIs(ends_in(book, box), True)
            self.assertEqual(error_box(book, (ZERO,) * len(book)), box)
            self.assertEqual(ever_box(book, box), box)
            self.assertEqual(still_box(book, box), box)
            inside = tuple(tuple(as_tuple(low + (high - low) * Fraction(part, 4)) for part in (1, 3))
                           for low, high in sides(box))
            self.assertEqual(ever_box(book, inside), box)
            self.assertEqual(end_of(book) is not None, all(low == high for low, high in box))
            works = Works()
            works.put_book("a", book)
            works.add_duty(("within", "a", box))
            desk = Desk(show_book(book, NAMES[:len(book)]))
            self.assertEqual([[Fraction(word) for word in line.split()[1:]] for line in desk.execute("ends")], sides(box))

    def test_values_come_into_it(self):
        """By fair rows: rounds in any order, each cell by any rule; and then none is farther outside than at first."""
        for chance, book in books_with_weights(62, 40, 3):
            box, weights = sides(box_of(book)), numbers(weights_of(book))
            rate = number(rate_by(book, weights_of(book)))
            pairs = make_start(chance, book)
            far = self.outside(pairs, box, weights)
            for _ in range(12):
                row = tuple((cell, chance.randrange(len(book[cell])), (0,) * len(book))
                            for cell in chance.sample(range(len(book)), len(book)))
                pairs = ran(book, pairs, row)
                after = self.outside(tuple(pair[:1] for pair in pairs), box, weights)
                self.assertLessEqual(after, far * rate)
                far = after

    def outside(self, pairs, box, weights):
        return max(
            max(low - number(value), number(value) - high, 0) / weight
            for (low, high), weight, pair in zip(box, weights, pairs) for value in pair)

    def test_one_round_comes_near_both_ends(self):
        """From all starts, by the same round: the misses, worked out by the row itself, go down."""
        for chance, book in books_with_weights(63, 30, 3):
            row, box = as_aged(book, nearing_round(book)), sides(box_of(book))
            self.assertEqual(len(row), 2 * len(book))
            weights, rate = weights_of(book), number(rate_by(book, weights_of(book)))
            for start in (make_start(chance, book), box_of(book), make_start(chance, book)):
                first = number(greatest_by(weights, misses(book, start, 0)))
                pairs = ran(book, start, row * 3)
                told = tuple(
                    (as_tuple(abs(number(newest) - low)), as_tuple(abs(number(ahead) - high)))
                    for (newest, ahead), (low, high) in zip(pairs, box))
                self.assertEqual(misses(book, start, 3), told)
                self.assertLessEqual(number(greatest_by(weights, told)), first * rate ** 3)

    def test_near_rows_do_what_they_say(self):
        for chance, book in books_with_weights(64, 20, 2):
            if number(pace_between(book, (1, 50))[1]) > Fraction(4, 5):
                continue
            start = make_start(chance, book)
            for cell in range(len(book)):
                for side in (0, 1):
                    row = near_row(book, start, cell, side, (1, 100))
                    end = number(ever_box(book, start)[cell][side])
                    values = numbers(start[cell]) + [
                        number(value) for turn, value in zip(row, worked_out(book, start, row)) if turn[0] == cell]
                    self.assertLessEqual(min(abs(end - value) for value in values), Fraction(1, 100))


class StagesTest(unittest.TestCase):
    """[7]: for each t just one of two is so."""

    def test_each_side(self):
        seen = []
        for chance, book in some_books(71, 80, 3):
            low, high = pace_between(book, (1, 100))
            for t in (high, low, as_tuple(Fraction(chance.randint(1, 20), 20))):
                if not 0 < number(t) <= 1:
                    continue
                word, told = pace_side(book, t)
                seen.append(word)
                row = make_row(chance, book, 40, 6)
                if word == "weights":
                    self.by_weights(chance, book, t, told, row)
                else:
                    self.by_lot(book, t, told)
                self.assertIs(has_weights(tuple(tuple((one, tuple(
                    as_tuple(number(factor) / number(t)) for factor in factors)) for one, factors in cell)
                    for cell in book)), word == "weights")
                works = Works()
                works.put_book("a", book)
                if word == "weights":
                    works.add_duty(("pace", "a", t))
                else:
                    self.assertRaises(LateError, works.add_duty, ("pace", "a", t))
        self.assertGreater(min(seen.count("weights"), seen.count("heavy")), 20)

    def by_weights(self, chance, book, t, weights, row):
        one, other = make_start(chance, book), make_start(chance, book)
        first = tuple(
            tuple(as_tuple(abs(number(mine) - number(yours))) for mine, yours in zip(*pairs)) for pairs in zip(one, other))
        made = numbers(distances(book, one, other, row))
        for (cell, _, _), distance, stage in zip(row, made, stages_of(book, row)):
            bound = 0 if stage is None else number(stage_bound(weights, t, first, stage)[cell])
            self.assertTrue(distance < bound or distance == bound == 0)

    def by_lot(self, book, t, found):
        one, other = stage_starts(book, found)
        row = stage_row(book, found, 4)
        told = stage_distances(book, found, 4)
        made = numbers(distances(book, one, other, row))
        for (cell, _, _), distance, stage in zip(row, made, stages_of(book, row)):
            if cell in found[1]:
                bulk = number(found[2][found[1].index(cell)])
                self.assertEqual(distance, number(told[stage][cell]))
                self.assertGreaterEqual(distance, number(t) ** stage * bulk)
            else:
                self.assertEqual(distance, 0)


class ShownCellsTest(unittest.TestCase):
    """[8]: what any surroundings can tell of a part."""

    def test_books_cut_in_two(self):
        """One side of a book exchanged for its flat part, or for what is spare of it, or for what may stand for it."""
        seen = []
        for chance, book in some_books(81, 80, 4):
            if len(book) < 2:
                continue
            lot = tuple(sorted(chance.sample(range(len(book)), chance.randint(1, len(book) - 1))))
            part, around = parted(book, lot)
            told = has_weights(book)
            if part[0] > 3:
                continue
            if weights_of(tuple(tuple((one, factors[:len(lot)]) for one, factors in cell) for cell in part[1])) is None:
                self.assertFalse(told)
                continue
            seen.append(told)
            self.assertIs(weights_of(whole_book(spare_part(part), around)) is not None, told)
            if part[2]:
                self.assertIs(weights_of(whole_book(flat_part(part), around)) is not None, told)
        self.assertGreater(min(seen.count(True), seen.count(False)), 10)

    def test_one_that_may_not_stand_is_told(self):
        for one, other in [(EITHER, BOTH), (HEAVY, EITHER), (HEAVY, BOTH)]:
            around = parting_surroundings(one, other)
            self.assertIsNotNone(why_not(one, other))
            self.assertFalse(has_weights(whole_book(one, around)))
            self.assertTrue(has_weights(whole_book(other, around)))
            works = Works()
            works.put_part("a", other)
            works.put_part("b", one)
            self.assertRaises(LateError, works.add_duty, ("stands", "a", "b"))
            works.add_duty(("stands", "b", "a"))
        self.assertIs(stands_for(BOTH, EITHER), True)
        self.assertIs(are_alike(flat_part(EITHER), EITHER), True)
        self.assertEqual(form_of(flat_part(EITHER)), form_of(EITHER))


class PromptTest(unittest.TestCase):
    """[9]: where all turns are prompt."""

    def test_signs_or_even(self):
        seen = []
        for book in mixed_books(91, 400):
            signs, scales = signs_of(book), scales_of(book)
            self.assertEqual(minus_ring(book) is None, signs is not None)
            if signs is None and scales is None:
                self.assertRaises(NotTold, calm_prompt, book)
                continue
            told = calm_prompt(book)
            if weights_of(book) is not None:
                self.assertIs(told, True)
            if signs is not None:
                self.assertIs(told, heavy_lot(book) is None)
            if scales is not None:
                self.assertIs(told, low_values(book) is None)
                self.assertEqual(late_alone(book) is not None, told and heavy_lot(book) is not None)
            seen.append((told, signs is not None, scales is not None))
        self.assertGreater(len(set(seen)), 5)

    def test_there_are_books_that_late_reads_alone_keep_apart(self):
        chance, seen = random.Random(92), 0
        for _ in range(60):
            book = close_book(chance, 3)
            told = late_alone(book)
            if told is not None:
                seen += 1
                self.assertEqual(told[0], squares_of(book))
                self.assertIsNone(signs_of(book))
                found = told[1]
                row = as_aged(book, apart_round(book, found, tuple(range(3)), (1,) * len(found[1])))
                self.assertTrue(any(age for _, _, ages in row for age in ages))
                start = apart_start(book, found, (1,) * len(found[1]))
                after = ran(plain(book), start, row * 3)
                for cell, share in zip(found[1], found[2]):
                    self.assertTrue(all(abs(number(value)) >= number(share) for value in after[cell]))
        self.assertGreater(seen, 5)


class BoundsTest(unittest.TestCase):
    """[4]: books at the bounds, asked of many modules."""

    def test_from_a_text_to_all_that_is_told(self):
        for seed, top in [(0, Fraction(1, 7)), (1, Fraction(2, 7)), (2, Fraction(2, 5))]:
            book = great_book(random.Random(seed), top)
            self.assertEqual(read_book(show_book(book, NAMES)), (book, NAMES))
            course = Course(book, ((ZERO, ONE),) * 6)
            for cell in range(6):
                course.turn(cell, 0, tuple(range(6)))
            self.assertEqual(len(course.log()), 6)
            weights = weights_of(book)
            if weights is None:
                self.assertIs(is_heavy_lot(book, heavy_lot(book)), True)
                for lot in least_reads(book, 1) + least_holds(book, 2):
                    self.assertTrue(heals(book, "holds" if isinstance(lot[0], int) else "reads", lot))
            else:
                self.assertIs(is_weights(book, weights), True)
                self.assertIs(is_weights(book, weights_for(book, (ONE,) * 6)), True)
                self.assertIs(is_own_box(book, box_of(book)), True)
