"""[48]: Works."""

import random
import unittest
from fractions import Fraction

from onelate.boxes import box_of, lies_in
from onelate.errors import Broken, NoName, Nothing, Wrong
from onelate.forms import is_box, is_name
from onelate.parts import is_part
from onelate.stands import stands_for
from onelate.works import Works
from tests.judge import (
    HALF, ONE, TWO, ZERO, deep, great_book, has_weights, inner, make_book, make_fraction, make_part, number, odd_values,
    spoiled)
from tests.test_pieces import bounds_part
from tests.test_stands import BOTH, EITHER, HEAVY

MINUS = (-1, 1)
CALM, WILD = (((ZERO, (HALF,)),),), (((ZERO, (TWO,)),),)
# Between 0 and 1 in the long run.
WIDE = (((ZERO, (HALF,)), (ONE, ((-1, 2),))),)
PAIR = (((ONE, (ZERO, HALF)),), ((ONE, (HALF, ZERO)),))


def state(works):
    """All that a Works tells of itself."""
    names = works.names()
    return list(names.items()), {name: works.called(name) for name in names}, works.duties()


def whole_state(works):
    """What it tells, and what it tells after each step back, and again."""
    other = works.twin()
    told = [state(other)]
    for call in (other.back, other.again):
        while True:
            try:
                call()
            except Nothing:
                break
            told.append(state(other))
    return told


class WorksTest(unittest.TestCase):
    def setUp(self):
        self.works = Works()

    def refused(self, error, fields, call, *arguments):
        """It raises this error, and nothing has changed then."""
        before = whole_state(self.works)
        with self.assertRaises(error, msg=repr(arguments)) as caught:
            call(*arguments)
        self.assertEqual(vars(caught.exception), fields, arguments)
        self.assertEqual(whole_state(self.works), before)
        return caught.exception

    def wrong(self, place, call, *arguments):
        self.refused(Wrong, {"place": place}, call, *arguments)

    def broken(self, duty, call, *arguments):
        self.refused(Broken, {"duty": duty}, call, *arguments)

    def no_name(self, name, call, *arguments):
        self.refused(NoName, {"name": name}, call, *arguments)

    def done(self, call, *arguments):
        self.assertIsNone(call(*arguments))


class DeedsTest(WorksTest):
    def test_the_beginning(self):
        self.assertEqual(state(self.works), ([], {}, []))
        for call in (self.works.back, self.works.again):
            self.refused(Nothing, {}, call)

    def test_put_and_drop(self):
        self.done(self.works.put_book, "b", CALM)
        self.done(self.works.put_part, "a", BOTH)
        self.assertEqual(list(self.works.names().items()), [("a", "part"), ("b", "book")])
        self.assertEqual((self.works.called("a"), self.works.called("b")), (BOTH, CALM))
        self.done(self.works.put_book, "a", WILD)
        self.assertEqual((self.works.names(), self.works.called("a")), ({"a": "book", "b": "book"}, WILD))
        self.done(self.works.put_part, "b", EITHER)
        self.assertEqual(self.works.names(), {"a": "book", "b": "part"})
        self.done(self.works.drop, "a")
        self.assertEqual(state(self.works), ([("b", "part")], {"b": EITHER}, []))
        self.done(self.works.drop, "b")
        self.assertEqual(self.works.names(), {})

    def test_names_in_order(self):
        for name in ("zz", "b", "aa", "abcdef", "a"):
            self.works.put_book(name, CALM)
        self.assertEqual(list(self.works.names()), ["a", "aa", "abcdef", "b", "zz"])

    def test_no_name(self):
        self.works.put_book("a", CALM)
        for name in ("b", "aa", "abcdef"):
            self.no_name(name, self.works.drop, name)
            self.no_name(name, self.works.called, name)
        self.works.drop("a")
        self.no_name("a", self.works.drop, "a")
        self.no_name("a", self.works.called, "a")

    def test_called_by_any_value(self):
        self.works.put_book("a", CALM)
        for thing in odd_values() + [("a",), ["a"], "b", "a ", CALM, {"a": 1}]:
            error = self.refused(NoName, {"name": thing}, self.works.called, thing)
            self.assertIs(error.name, thing)

    def test_duties(self):
        self.works.put_book("a", CALM)
        some = [("together", "a"), ("pace", "a", (2, 3)), ("together", "a"), ("within", "a", ((MINUS, ONE),))]
        for duty in some:
            self.done(self.works.add_duty, duty)
        self.assertEqual(self.works.duties(), some)
        self.assertEqual(self.works.drop_duty(2), some[2])
        self.assertEqual(self.works.drop_duty(0), some[0])
        self.assertEqual(self.works.duties(), [some[1], some[3]])
        self.assertEqual(self.works.drop_duty(1), some[3])
        self.assertEqual(self.works.drop_duty(0), some[1])
        self.assertEqual(self.works.duties(), [])

    def test_what_is_told_may_be_changed(self):
        self.works.put_book("a", CALM)
        self.works.add_duty(("together", "a"))
        before = whole_state(self.works)
        self.works.names()["b"] = "book"
        self.works.names().clear()
        self.works.duties().append(None)
        self.works.duties().clear()
        self.assertEqual(whole_state(self.works), before)
        self.assertIsNot(self.works.names(), self.works.names())
        self.assertIsNot(self.works.duties(), self.works.duties())


class WrongTest(WorksTest):
    names = ["", "A", "abcdefg", "a1", "a b", " a", "a\n", None, True, 1, ["a"], ("a",), {"a": 1}, CALM]

    def test_names(self):
        """The first argument that is none, whatever the second one is."""
        self.works.put_book("a", CALM)
        for thing in self.names + odd_values():
            for call in (self.works.put_book, self.works.put_part):
                for other in (CALM, BOTH, None, []):
                    self.wrong(0, call, thing, other)
            self.wrong(0, self.works.drop, thing)

    def test_books_and_parts(self):
        self.works.put_book("a", CALM)
        self.works.add_duty(("together", "a"))
        for name in ("a", "b"):
            for thing in odd_values() + [BOTH, EITHER, (), list(CALM), (CALM,), CALM[0], (((ZERO, ()),),), "a"]:
                self.wrong(1, self.works.put_book, name, thing)
            for thing in odd_values() + [CALM, (), list(BOTH), BOTH[:2], (3,) + BOTH[1:], "a"]:
                self.wrong(1, self.works.put_part, name, thing)
            for thing in spoiled(CALM):
                self.wrong(1, self.works.put_book, name, thing)
            for thing in spoiled(BOTH):
                self.assertFalse(is_part(thing))
                self.wrong(1, self.works.put_part, name, thing)

    def test_duties(self):
        self.works.put_book("a", CALM)
        for thing in odd_values() + [
                ("together",), ("together", "a", "a"), ("together", "A"), ("together", "a", ONE), ["together", "a"],
                ("within", "a"), ("within", "a", ((ONE, ZERO),)), ("within", "a", ((ZERO, (2, 2)),)),
                ("within", "a", ((ZERO,),)), ("within", "a", ((ZERO, ONE, TWO),)), ("within", "a", [(ZERO, ONE)]),
                ("within", "a", ([ZERO, ONE],)), ("within", "a", (ZERO, ONE)), ("within", "A", ((ZERO, ONE),)),
                ("within", "a", None), ("within", "a", ((ZERO, ONE),), ()), ("pace", "a"), ("pace", "a", ZERO),
                ("pace", "a", (-1, 2)), ("pace", "a", (10001, 10000)), ("pace", "a", TWO), ("pace", "a", (2, 4)),
                ("pace", "a", [1, 2]), ("pace", "a", 1), ("pace", "a", True), ("pace", "a", (True, 2)),
                ("pace", "", HALF), ("pace", "a", HALF, HALF), ("stands", "a"), ("stands", "a", "B"),
                ("stands", "A", "b"), ("stands", "a", "b", "c"), ("stands", "a", None), ("stands", ["a"], "b"),
                ("stand", "a", "b"), ("a", "together"), (None, "a"), (["together"], "a"), ("Together", "a"),
                ("together ", "a"), (True, "a"), ("pace", HALF, "a"), ("together", True), "together"]:
            self.wrong(0, self.works.add_duty, thing)
        for good in [("together", "a"), ("pace", "a", HALF), ("within", "a", ((ZERO, ONE),))]:
            for thing in spoiled(good):
                self.wrong(0, self.works.add_duty, thing)

    def test_indexes(self):
        for index in (0, -1, 1):
            self.wrong(0, self.works.drop_duty, index)
        self.works.put_book("a", CALM)
        self.works.add_duty(("together", "a"))
        self.works.add_duty(("pace", "a", ONE))
        for thing in [2, -1, -2, True, False, None, "0", (0,), [0], 10 ** 39] + odd_values():
            self.wrong(0, self.works.drop_duty, thing)


class BrokenTest(WorksTest):
    def test_together(self):
        duty = ("together", "a")
        self.broken(duty, self.works.add_duty, duty)
        self.works.put_book("a", WILD)
        self.broken(duty, self.works.add_duty, duty)
        self.works.put_book("a", CALM)
        self.done(self.works.add_duty, duty)
        self.broken(duty, self.works.put_book, "a", WILD)
        self.broken(duty, self.works.put_part, "a", BOTH)
        self.broken(duty, self.works.drop, "a")
        self.done(self.works.put_book, "a", PAIR)
        self.done(self.works.put_book, "b", WILD)
        self.done(self.works.drop, "b")

    def test_within(self):
        for box, told in [(((ZERO, ONE),), True), (((MINUS, TWO),), True), (((ZERO, HALF),), False), ((), False),
                          (((HALF, ONE),), False), (((ZERO, (9999, 10000)),), False), (((ZERO, ONE),) * 2, False),
                          ((((1, 10000), ONE),), False)]:
            works = self.works = Works()
            works.put_book("a", WIDE)
            duty = ("within", "a", box)
            if told:
                self.done(works.add_duty, duty)
                self.broken(duty, works.put_book, "a", WILD)
                self.broken(duty, works.put_book, "a", PAIR)
                self.broken(duty, works.put_book, "a", (((MINUS, (HALF,)), ((3, 1), (ZERO,))),))
                self.done(works.put_book, "a", (((HALF, (ZERO,)),),))
            else:
                self.broken(duty, works.add_duty, duty)

    def test_within_a_point(self):
        """Low and high may be the same."""
        self.works.put_book("a", CALM)
        self.done(self.works.add_duty, ("within", "a", ((ZERO, ZERO),)))
        self.broken(("within", "a", ((HALF, HALF),)), self.works.add_duty, ("within", "a", ((HALF, HALF),)))
        self.broken(("within", "a", ((ZERO, ZERO),)), self.works.put_book, "a", (((ONE, (HALF,)),),))

    def test_within_of_a_book_with_a_heavy_lot(self):
        """It has one own box, from 0 to 0, and no weights."""
        self.works.put_book("a", WILD)
        duty = ("within", "a", ((MINUS, ONE),))
        self.broken(duty, self.works.add_duty, duty)

    def test_pace(self):
        self.works.put_book("a", CALM)
        for t in [HALF, (1, 3), (1, 10 ** 4)]:
            self.broken(("pace", "a", t), self.works.add_duty, ("pace", "a", t))
        duty = ("pace", "a", (5001, 10000))
        self.done(self.works.add_duty, duty)
        self.done(self.works.add_duty, ("pace", "a", ONE))
        self.broken(duty, self.works.put_book, "a", (((ZERO, ((2, 3),)),),))
        self.done(self.works.put_book, "a", (((ZERO, ((1, 3),)),),))

    def test_stands(self):
        """The second part may stand for the first one."""
        self.works.put_part("a", EITHER)
        self.works.put_part("b", BOTH)
        self.done(self.works.add_duty, ("stands", "a", "b"))
        self.broken(("stands", "b", "a"), self.works.add_duty, ("stands", "b", "a"))
        self.done(self.works.add_duty, ("stands", "a", "a"))
        self.broken(("stands", "a", "b"), self.works.put_part, "a", (2, (((ZERO, (ZERO, HALF, ZERO)),),), (0,)))
        self.broken(("stands", "a", "b"), self.works.put_part, "b", HEAVY)
        self.broken(("stands", "a", "b"), self.works.drop, "b")
        self.broken(("stands", "a", "b"), self.works.drop, "a")
        self.done(self.works.put_part, "a", HEAVY)
        self.done(self.works.put_part, "b", HEAVY)

    def test_parts_with_other_numbers(self):
        some = {"a": BOTH, "b": (1, (((ZERO, (ZERO, ZERO)),),), (0,)), "c": (2, BOTH[1], ()),
                "d": (2, HEAVY[1], ()), "e": (1, (((ZERO, (TWO, ZERO)),),), (0,))}
        for name, part in some.items():
            self.works.put_part(name, part)
        for one, other in [("a", "b"), ("b", "a"), ("a", "c"), ("c", "a"), ("d", "a"), ("e", "a")]:
            self.broken(("stands", one, other), self.works.add_duty, ("stands", one, other))
        for one, other in [("d", "c"), ("e", "b")]:
            self.done(self.works.add_duty, ("stands", one, other))

    def test_names_that_are_none_or_of_the_other_sort(self):
        self.works.put_book("a", CALM)
        self.works.put_part("p", BOTH)
        for duty in [("together", "z"), ("together", "p"), ("within", "z", ((ZERO, ONE),)),
                     ("within", "p", ((ZERO, ONE),)), ("pace", "z", ONE), ("pace", "p", ONE), ("stands", "p", "z"),
                     ("stands", "z", "p"), ("stands", "p", "a"), ("stands", "a", "p"), ("stands", "a", "a"),
                     ("stands", "z", "z")]:
            self.broken(duty, self.works.add_duty, duty)

    def test_the_first_duty(self):
        self.works.put_book("a", CALM)
        self.works.put_book("b", CALM)
        some = [("pace", "b", ONE), ("pace", "a", (2, 3)), ("within", "a", ((MINUS, ONE),)), ("together", "a"),
                ("pace", "a", (2, 3))]
        for duty in some:
            self.works.add_duty(duty)
        self.broken(some[1], self.works.put_book, "a", WILD)
        self.broken(some[1], self.works.put_book, "a", (((ONE, ((3, 4),)),),))
        self.broken(some[2], self.works.put_book, "a", (((ONE, (HALF,)),),))
        self.broken(some[0], self.works.drop, "b")
        self.broken(some[1], self.works.put_part, "a", BOTH)
        self.works.drop_duty(1)
        self.broken(some[2], self.works.put_book, "a", WILD)
        self.works.drop_duty(1)
        self.broken(some[3], self.works.put_book, "a", WILD)
        self.works.drop_duty(1)
        self.broken(some[4], self.works.put_book, "a", WILD)
        self.works.drop_duty(1)
        self.done(self.works.put_book, "a", WILD)

    def test_the_error_keeps_the_duty_itself(self):
        duty = ("within", "a", ((ZERO, ONE),))
        self.assertIs(self.refused(Broken, {"duty": duty}, self.works.add_duty, duty).duty, duty)

    def test_a_name_that_nothing_has_comes_first(self):
        self.works.put_book("a", CALM)
        self.works.add_duty(("together", "a"))
        self.no_name("b", self.works.drop, "b")
        self.wrong(0, self.works.drop, "B")
        self.wrong(1, self.works.put_book, "a", BOTH)


class BackTest(WorksTest):
    def go(self):
        """Does a deed of each sort; returns the states one behind the other."""
        deeds = [
            (self.works.put_book, "a", CALM), (self.works.put_part, "p", BOTH), (self.works.add_duty, ("together", "a")),
            (self.works.add_duty, ("stands", "p", "p")), (self.works.put_book, "a", WIDE),
            (self.works.put_book, "b", WILD), (self.works.drop, "b"), (self.works.drop_duty, 0),
            (self.works.put_part, "a", EITHER)]
        states = [state(self.works)]
        for call, *arguments in deeds:
            call(*arguments)
            states.append(state(self.works))
        return states

    def test_back_and_again(self):
        states = self.go()
        for _ in range(2):
            for told in states[-2::-1]:
                self.done(self.works.back)
                self.assertEqual(state(self.works), told)
            self.refused(Nothing, {}, self.works.back)
            for told in states[1:]:
                self.done(self.works.again)
                self.assertEqual(state(self.works), told)
            self.refused(Nothing, {}, self.works.again)

    def test_to_and_fro(self):
        states, at = self.go(), 9
        chance = random.Random(48)
        for _ in range(80):
            step = chance.choice((-1, 1))
            call = self.works.back if step < 0 else self.works.again
            if 0 <= at + step <= 9:
                at += step
                self.done(call)
            else:
                self.refused(Nothing, {}, call)
            self.assertEqual(state(self.works), states[at])

    def test_something_done_between(self):
        deeds = [lambda: self.works.put_book("q", CALM), lambda: self.works.put_part("q", BOTH),
                 lambda: self.works.drop("p"), lambda: self.works.add_duty(("pace", "a", ONE)),
                 lambda: self.works.drop_duty(0)]
        for at, deed in enumerate(deeds):
            self.works = Works()
            self.works.put_book("a", CALM)
            self.works.put_part("p", BOTH)
            self.works.add_duty(("together", "a"))
            before = state(self.works)
            self.works.put_book("z", CALM)
            self.works.put_book("z", WILD)
            self.works.back()
            self.works.back()
            self.assertEqual(state(self.works), before)
            deed()
            after = state(self.works)
            self.refused(Nothing, {}, self.works.again)
            self.works.back()
            self.assertEqual(state(self.works), before, at)
            self.works.again()
            self.assertEqual(state(self.works), after)

    def test_what_is_refused_leaves_what_can_be_done_again(self):
        self.works.put_book("a", CALM)
        self.works.add_duty(("together", "a"))
        self.works.put_book("b", WILD)
        self.works.back()
        self.broken(("together", "a"), self.works.put_book, "a", WILD)
        self.no_name("c", self.works.drop, "c")
        self.wrong(0, self.works.drop_duty, 1)
        self.broken(("together", "b"), self.works.add_duty, ("together", "b"))
        self.done(self.works.again)
        self.assertEqual(self.works.called("b"), WILD)

    def test_questions_change_nothing(self):
        self.works.put_book("a", CALM)
        self.works.put_book("a", WILD)
        self.works.back()
        self.works.names(), self.works.duties(), self.works.called("a"), self.works.twin()
        self.done(self.works.again)
        self.assertEqual(self.works.called("a"), WILD)

    def test_the_same_thing_put_again(self):
        """It is something done, too."""
        self.works.put_book("a", CALM)
        self.works.put_book("a", CALM)
        self.works.back()
        self.assertEqual(self.works.called("a"), CALM)
        self.works.back()
        self.assertEqual(self.works.names(), {})


class TwinTest(WorksTest):
    def test_they_go_their_own_ways(self):
        self.works.put_book("a", CALM)
        self.works.add_duty(("together", "a"))
        self.works.put_book("b", WILD)
        self.works.back()
        twin = self.works.twin()
        self.assertEqual(whole_state(twin), whole_state(self.works))
        before = whole_state(self.works)
        twin.again()
        twin.put_part("p", BOTH)
        twin.drop_duty(0)
        twin.put_book("a", WILD)
        self.assertEqual(whole_state(self.works), before)
        after = whole_state(twin)
        self.works.back()
        self.works.back()
        self.works.put_book("c", PAIR)
        self.assertEqual(whole_state(twin), after)
        self.assertEqual(list(twin.names()), ["a", "b", "p"])
        self.assertEqual(list(self.works.names()), ["c"])

    def test_a_new_works_knows_nothing_of_others(self):
        self.works.put_book("a", CALM)
        self.assertEqual(state(Works()), ([], {}, []))


class ManyTest(WorksTest):
    """All deeds by chance, beside a plain model that asks each duty each time."""

    def holds(self, held, duty):
        things = [held.get(name) for name in duty[1:2] + (duty[2:] if duty[0] == "stands" else ())]
        if None in things:
            return False
        if duty[0] == "stands":
            if not all(is_part(thing) for thing in things):
                return False
            first, other = things
            return (first[0], len(first[2])) == (other[0], len(other[2])) and stands_for(other, first)
        book = things[0]
        if is_part(book):
            return False
        if duty[0] == "pace":
            by = number(duty[2])
            return has_weights(tuple(tuple((told, tuple(
                (lambda one: (one.numerator, one.denominator))(number(factor) / by) for factor in factors))
                for told, factors in cell) for cell in book))
        if duty[0] == "within":
            return has_weights(book) and is_box(book, duty[2]) and lies_in(box_of(book), duty[2])
        return has_weights(book)

    def make_thing(self, chance):
        if chance.random() < 0.5:
            return make_part(chance, chance.randint(1, 2), 2, chance.randint(0, 1), chance.choice(((), (0,))))
        return make_book(chance, chance.randint(1, 2), 2, lambda: make_fraction(chance, 3, 5), 0.4)

    def make_duty(self, chance, names):
        word = chance.choice(("together", "within", "pace", "stands"))
        more = {"together": (), "within": (((((-9), 1), (9, 1)),) * chance.randint(1, 2),),
                "pace": ((chance.randint(1, 5), 5),), "stands": (chance.choice(names),)}[word]
        if word == "pace":
            one = Fraction(*more[0])
            more = ((one.numerator, one.denominator),)
        return (word, chance.choice(names)) + more

    def test_by_chance(self):
        for seed in range(12):
            chance, names = random.Random(seed), ["a", "b", "c"]
            works, past, at = Works(), [({}, [])], 0
            for _ in range(60):
                held, duties = past[at]
                word = chance.choice(("put", "put", "put", "drop", "add", "add", "free", "back", "again"))
                name, broken, after = chance.choice(names), None, None
                if word == "put":
                    thing = self.make_thing(chance)
                    after = ({**held, name: thing}, duties)
                    call = (works.put_part if is_part(thing) else works.put_book, name, thing)
                elif word == "drop":
                    after = ({one: held[one] for one in held if one != name}, duties)
                    call = (works.drop, name)
                elif word == "add":
                    after = (held, duties + [self.make_duty(chance, names)])
                    call = (works.add_duty, after[1][-1])
                elif word == "free" and duties:
                    index = chance.randrange(len(duties))
                    after = (held, duties[:index] + duties[index + 1:])
                    call = (works.drop_duty, index)
                else:
                    step = -1 if word == "back" else 1
                    if 0 <= at + step < len(past):
                        at += step
                        (works.back if step < 0 else works.again)()
                    else:
                        self.assertRaises(Nothing, works.back if step < 0 else works.again)
                    after = None
                if after is not None:
                    broken = next((duty for duty in after[1] if not self.holds(after[0], duty)), None)
                    if word == "drop" and name not in held:
                        self.assertRaises(NoName, *call)
                    elif broken is not None:
                        with self.assertRaises(Broken) as caught:
                            call[0](*call[1:])
                        self.assertEqual(caught.exception.duty, broken)
                    else:
                        call[0](*call[1:])
                        past, at = past[:at + 1] + [after], at + 1
                held, duties = past[at]
                self.assertEqual(works.duties(), duties)
                self.assertEqual(
                    list(works.names().items()),
                    [(one, "part" if is_part(held[one]) else "book") for one in sorted(held)])
                self.assertTrue(all(works.called(one) == held[one] and is_name(one) for one in held))

    def test_at_the_bounds(self):
        book, (_, part) = great_book(random.Random(0), Fraction(1, 7)), bounds_part(0)
        self.works.put_book("a", book)
        self.works.put_part("p", part)
        self.works.add_duty(("within", "a", box_of(book)))
        self.works.add_duty(("pace", "a", (9, 10)))
        self.works.add_duty(("stands", "p", "p"))
        for _ in range(5):
            self.works.put_part("p", part)
            self.works.put_book("a", book)
        self.broken(("within", "a", box_of(book)), self.works.put_book, "a", great_book(random.Random(0), 1))
        self.assertTrue(has_weights(inner(part)))

    def test_deep_values(self):
        for levels in (1, 19):
            self.wrong(1, self.works.put_book, "a", deep(levels))
            self.wrong(1, self.works.put_part, "a", deep(levels))
            self.wrong(0, self.works.add_duty, deep(levels))
