"""[12]: forms. Each function by values that are so, and by values that are not."""

import copy
import unittest

from onelate import forms
from tests.judge import HALF, ONE, ZERO, odd_values, spoiled

READS = (ONE, (HALF, (-1, 3), ZERO))
CONSTANT = (HALF, (ZERO, ZERO, ZERO))
LAST = (ZERO, (ZERO, ZERO, ONE))
BOOK = ((READS, CONSTANT), (CONSTANT,), (LAST, READS, CONSTANT))
SINGLE = (((ZERO, (HALF,)), (ONE, (ZERO,))),)
FORMS = {
    "is_start": 1, "is_turn": 1, "is_row": 1, "is_round": 1, "is_aged_turn": 1, "is_aged_row": 1, "is_choice": 1,
    "is_lot": 1, "is_box": 1, "are_names": 1, "is_rule": 1, "is_integer": 0, "is_fraction": 0, "is_book": 0,
    "is_name": 0,
}
GOOD = {
    "is_integer": [0, 1, -1, 10 ** 40 - 1, -(10 ** 39)],
    "is_fraction": [ZERO, ONE, (-1, 1), (-2, 3), (10 ** 39, 7), (7, 10 ** 39)],
    "is_rule": [READS, CONSTANT, (ZERO, (ZERO, ZERO, ZERO)), ((-9, 4), (ONE, ONE, (-5, 2)))],
    "is_book": [BOOK, SINGLE, ((CONSTANT,) * 9,) * 3, (((ZERO, (ONE,) * 8),),) * 8],
    "is_start": [((ZERO, ONE), (HALF, HALF), ((-1, 2), (10 ** 9, 1)))],
    "is_turn": [(0, 0, ()), (0, 0, (0,)), (0, 0, (1,)), (0, 0, (0, 1)), (0, 1, ()), (1, 0, ()), (2, 0, (2,)),
                (2, 1, (0, 1)), (2, 2, ())],
    "is_row": [(), ((1, 0, ()),), ((0, 0, (0, 1)), (0, 0, ()), (2, 0, (2,)), (0, 0, (0, 1)))],
    "is_round": [((0, 0, ()), (1, 0, ()), (2, 0, ())), ((2, 0, (2,)), (1, 0, ()), (2, 2, ()), (0, 0, (1,)), (1, 0, ()))],
    "is_aged_turn": [(0, 0, (0, 0, 0)), (0, 0, (7, 10 ** 39, 0)), (1, 0, (0, 0, 0)), (2, 0, (0, 0, 60)),
                     (2, 1, (1, 0, 0))],
    "is_aged_row": [(), ((0, 0, (5, 5, 0)),), ((1, 0, (0, 0, 0)), (2, 0, (0, 0, 1)), (1, 0, (0, 0, 0)))],
    "is_choice": [(0, 0, 0), (1, 0, 2), (0, 0, 1)],
    "is_lot": [(0,), (2,), (0, 2), (0, 1, 2)],
    "is_box": [((ZERO, ONE), (HALF, HALF), ((-1, 1), (-1, 2))), ((ZERO, ZERO),) * 3],
    "is_name": ["a", "z", "abcdef", "zzzzzz", "cell", "rule"],
    "are_names": [("a", "b", "c"), ("zzzzzz", "a", "aa"), ("rule", "cell", "b")],
}
BAD = {
    "is_integer": [True, False, None, "1", (1,), [1], {1: 1}],
    "is_fraction": [(2, 4), (0, 2), (0, 0), (1, 0), (1, -1), (-1, -2), (0, -1), (1,), (1, 2, 3), (), [1, 2],
                    (True, 1), (1, True), (False, 1), ("1", 2), (1, "2"), (None, 1), (1, None), ((1, 2), 3), 1, "1/2"],
    "is_rule": [(ONE, (HALF, ZERO)), (ONE, (HALF, ZERO, ONE, ONE)), (ONE, ()), (ONE,), (ONE, READS[1], ONE),
                ((2, 4), READS[1]), (ONE, (HALF, (2, 4), ZERO)), (ONE, [HALF, ZERO, ONE]), [ONE, READS[1]],
                (READS[1], ONE), (1, READS[1]), (ONE, (HALF, 0, ONE)), (None, READS[1]), (ONE, None), (ONE, "abc"),
                (ONE, {0: ONE, 1: ONE, 2: ONE}), (ONE, (HALF, (1, 0), ZERO))],
    "is_book": [(), ((),), ((CONSTANT,),), ((CONSTANT,), (CONSTANT,)), BOOK + ((CONSTANT,),), BOOK[:2], list(BOOK),
                (list(BOOK[0]), BOOK[1], BOOK[2]), (BOOK[0], (), BOOK[2]), (BOOK[0], CONSTANT, BOOK[2]),
                (BOOK[0], (CONSTANT, (HALF, (ZERO, ZERO))), BOOK[2]), (BOOK[0], ((HALF, ((0, 2), ZERO, ZERO)),), BOOK[2]),
                CONSTANT, (CONSTANT,) * 3, (BOOK, BOOK, BOOK), {0: BOOK[0], 1: BOOK[1], 2: BOOK[2]}],
    "is_start": [((ZERO, ONE), (HALF, HALF)), ((ZERO, ONE),) * 4, (), (ZERO, ONE, HALF), ((ZERO,),) * 3,
                 ((ZERO, ONE, ONE),) * 3, ([ZERO, ONE],) * 3, [(ZERO, ONE)] * 3, ((ZERO, (2, 2)),) * 3,
                 (((0, 2), ONE),) * 3, ((ZERO, ONE), (ZERO, ONE), (ZERO, None)), ((ZERO, 1),) * 3],
    "is_turn": [(0, 0), (0, 0, (), ()), (), [0, 0, ()], (3, 0, ()), (-1, 0, ()), (0, 2, ()), (0, -1, ()), (1, 1, ()),
                (True, 0, ()), (False, 0, ()), (0, True, ()), (0, False, ()), (0, 0, []), (0, 0, [0]), (0, 0, (2,)),
                (0, 1, (0,)), (0, 0, (1, 0)), (0, 0, (0, 0)), (0, 0, (1, 1)), (0, 0, (0, 1, 2)), (0, 0, (False,)),
                (0, 0, (True,)), (0, 0, (-3,)), (0, 0, (3,)), (0, 0, None), (0, 0, 0), (None, 0, ()), (0, None, ()),
                ("0", 0, ()), ((0,), 0, ()), (0, 0, (None,)), (0, 0, {0: 1}), (0, 0, "a"), (2, 0, (0,)),
                (0, 0, (0, 0, 0)), (0, 0, ((0,),)), (0, 0, (0, None)), (0, 0, (None, 0))],
    "is_row": [[], None, ((0, 0),), [(0, 0, ())], ((0, 0, ()), [0, 0, ()]), (0, 0, ()), ((0, 0, ()), (0, 0, (2,))),
               ((3, 0, ()), (0, 0, ())), ((0, 0, (0, 0, 0)),), {(0, 0, ()): 1}, "", ((1, 0, ()), None)],
    "is_round": [(), ((0, 0, ()),), ((0, 0, ()), (2, 0, ())), ((1, 0, ()), (2, 0, ()), (1, 0, ()), (2, 1, ())),
                 [(0, 0, ()), (1, 0, ()), (2, 0, ())], ((0, 0, ()), (1, 0, ()), (2, 0, (1,))), (0, 1, 2),
                 ((0, 0, ()), (1, 0, ()), (3, 0, ())), ((0,), (1,), (2,))],
    "is_aged_turn": [(0, 0), (0, 0, (0, 0, 0), 0), [0, 0, (0, 0, 0)], (3, 0, (0, 0, 0)), (-1, 0, (0, 0, 0)),
                     (0, 2, (0, 0, 0)), (1, -1, (0, 0, 0)), (0, 0, (0, 0)), (0, 0, (0, 0, 0, 0)), (0, 0, ()),
                     (0, 0, [0, 0, 0]), (0, 0, (0, 0, 1)), (0, 1, (1, 0, 0)), (0, 1, (0, 0, 2)), (2, 0, (1, 0, 0)),
                     (0, 0, (-1, 0, 0)), (0, 0, (0, -1, 0)), (0, 0, (0, 0, -1)), (0, 0, (True, 0, 0)),
                     (0, 0, (0, 0, False)), (0, 0, (0, 0, None)), (0, 0, ("1", 0, 0)), (True, 0, (0, 0, 0)),
                     (0, False, (0, 0, 0)), (0, 0, (0,)), (0, 0, 0), (0, 0, "abc"), (0, 0, ((0,), 0, 0))],
    "is_aged_row": [[], ((0, 0, (0, 0, 1)),), ((0, 0, (0, 0)),), ((0, 0, ()),), (0, 0, (0, 0, 0)),
                    [(0, 0, (0, 0, 0))], ((0, 0, (0, 0, 0)), None), ((1, 0, (0, 0, 0)), (1, 0, (1, 0, 0)))],
    "is_choice": [(0, 0), (0, 0, 0, 0), (), [0, 0, 0], (2, 0, 0), (0, 1, 0), (0, 0, 3), (-1, 0, 0), (0, 0, -1),
                  (True, 0, 0), (0, False, 0), (0, 0, None), ("0", 0, 0), ((0,), 0, 0), {0: 0, 1: 0, 2: 0}],
    "is_lot": [(), [0], (0, 0), (1, 0), (3,), (-1,), (0, 3), (-1, 0), (True,), (False, 1), (0, True), (None,), ("a",),
               (0, 1, 2, 3), (0, 2, 1), 0, (0, None), ((0,),), {0: 0}],
    "is_box": [((ONE, ZERO),) * 3, ((ZERO, ONE), (ZERO, ONE), (HALF, (1, 3))), ((ZERO, ONE),) * 2,
               ((ZERO, ONE),) * 4, (), ([ZERO, ONE],) * 3, [(ZERO, ONE)] * 3, ((ZERO, (2, 2)),) * 3, ((ZERO,),) * 3,
               ((ZERO, ONE, ONE),) * 3, ((0, 1),) * 3, ((ZERO, None),) * 3, ((None, ONE),) * 3],
    "is_name": ["", "A", "abcdefg", "a1", "a b", " a", "a ", "a\n", "aB", "a-b", "a_b", "`", "{", 1, None, True, ["a"],
                ("a",), ("a", "b"), b"a", {"a": 1}],
    "are_names": [("a", "b"), ("a", "b", "c", "d"), (), ("a", "b", "a"), ("a", "a", "b"), ["a", "b", "c"], "abc",
                  ("a", "b", "C"), ("a", "b", ""), ("a", "b", None), ("a", "b", ["c"]), ("a", "b", {}), (1, 2, 3),
                  ("abcdefg", "b", "c"), {"a": 1, "b": 2, "c": 3}],
}


def ask(name, thing):
    """What the function of this name tells of the thing, for the book."""
    if name == "is_rule":
        return forms.is_rule(3, thing)
    return getattr(forms, name)(*[BOOK] * FORMS[name], thing)


class FormsTest(unittest.TestCase):
    def test_what_is_so(self):
        for name in FORMS:
            for thing in GOOD[name]:
                self.assertIs(ask(name, thing), True, (name, thing))

    def test_what_is_not_so(self):
        for name in FORMS:
            for thing in BAD[name]:
                self.assertIs(ask(name, thing), False, (name, thing))

    def test_any_values(self):
        integers, lots = [-1, 10 ** 40 - 1, 1 - 10 ** 40], [(1,), (0, 2)]
        for name in FORMS:
            for thing in odd_values():
                told = name == "is_integer" and thing in integers or name == "is_lot" and thing in lots
                self.assertIs(ask(name, thing), told, (name, thing))

    def test_with_a_part_exchanged_or_added(self):
        for name in FORMS:
            for good in GOOD[name]:
                for thing in spoiled(good):
                    self.assertIs(ask(name, thing), False, (name, thing))

    def test_with_a_part_left_out(self):
        for name in ("is_fraction", "is_rule", "is_book", "is_start", "is_turn", "is_aged_turn", "is_choice", "is_box",
                     "are_names"):
            for good in GOOD[name]:
                for at in range(len(good)):
                    self.assertIs(ask(name, good[:at] + good[at + 1:]), False, (name, good, at))

    def test_the_forms_of_one_thing(self):
        """A tuple that is one of the forms is none of the unlike ones."""
        for name in ("is_fraction", "is_rule", "is_book", "is_turn", "is_round", "is_lot", "is_name", "are_names"):
            for other in ("is_integer", "is_aged_turn", "is_box", "is_start"):
                for thing in GOOD[name]:
                    self.assertIs(ask(other, thing), False, (name, other, thing))

    def test_rules_for_other_numbers_of_cells(self):
        self.assertIs(forms.is_rule(1, (ONE, (HALF,))), True)
        self.assertIs(forms.is_rule(2, (ONE, (HALF,))), False)
        self.assertIs(forms.is_rule(1, READS), False)
        self.assertIs(forms.is_rule(6, (ONE, (HALF,) * 6)), True)

    def test_books_of_one_cell(self):
        self.assertIs(forms.is_book(SINGLE), True)
        self.assertIs(forms.is_start(SINGLE, ((ZERO, ONE),)), True)
        self.assertIs(forms.is_turn(SINGLE, (0, 0, (0,))), True)
        self.assertIs(forms.is_turn(SINGLE, (0, 1, (0,))), False)
        self.assertIs(forms.is_round(SINGLE, ((0, 1, ()),)), True)
        self.assertIs(forms.is_aged_turn(SINGLE, (0, 0, (3,))), True)
        self.assertIs(forms.is_choice(SINGLE, (1,)), True)
        self.assertIs(forms.is_lot(SINGLE, (0,)), True)
        self.assertIs(forms.is_lot(SINGLE, (1,)), False)
        self.assertIs(forms.are_names(SINGLE, ("a",)), True)

    def test_the_bounds_are_not_asked(self):
        many = 9
        rule = (((10 ** 39), 1), ((1, 10 ** 39),) * many)
        book = ((rule,) * 12,) * many
        self.assertIs(forms.is_book(book), True)
        self.assertIs(forms.is_row(book, ((0, 11, (8,)),) * 600), True)
        self.assertIs(forms.is_aged_row(book, ((0, 11, (99,) * many),) * 600), True)

    def test_nothing_is_changed_by_asking(self):
        things = [[(0, 1)], {"a": [1, 2]}, [[], {}], ([ZERO, ONE],) * 3]
        for thing in things:
            before = copy.deepcopy(thing)
            for name in FORMS:
                ask(name, thing)
            self.assertEqual(thing, before)
