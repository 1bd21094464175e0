"""[20]: sums solved."""

import random
import unittest

from onelate.systems import kept_values, solution_of, still_row
from tests.judge import HALF, ONE, TWO, ZERO, as_tuple, determinant, make_fraction, number, numbers

THREE, MINUS = (3, 1), (-1, 1)


def given(row, answer):
    return sum(number(item) * number(worth) for item, worth in zip(row, answer))


def rank(rows):
    """How many of the rows are left when each is cleared of those ahead of it, by Fractions."""
    left = [numbers(row) for row in rows]
    many = 0
    for place in range(len(rows[0])):
        found = [row for row in left[many:] if row[place] != 0]
        if found:
            chosen = found[0]
            rest = [row for row in left[many:] if row is not chosen]
            cleared = [[item - row[place] / chosen[place] * other for item, other in zip(row, chosen)] for row in rest]
            left = left[:many] + [chosen] + cleared
            many += 1
    return many


def make_rows(chance, many, items, den=9):
    """Random rows, some of which are made of the others."""
    rows = []
    for _ in range(many):
        if rows and chance.random() < 0.3:
            by, one, other = chance.randint(-3, 3), chance.choice(rows), chance.choice(rows)
            rows.append(tuple(as_tuple(number(mine) + by * number(yours)) for mine, yours in zip(one, other)))
        else:
            rows.append(tuple(
                ZERO if chance.random() < 0.4 else make_fraction(chance, 9, den) for _ in range(items)))
    return tuple(rows)


class SolutionTest(unittest.TestCase):
    def test_one_answer(self):
        self.assertEqual(solution_of(((TWO,),), (THREE,)), ((3, 2),))
        self.assertEqual(solution_of(((TWO,),), (ZERO,)), (ZERO,))
        self.assertEqual(solution_of(((ZERO, ONE), (ONE, ZERO)), (HALF, THREE)), (THREE, HALF))
        self.assertEqual(solution_of(((ONE, HALF), ((1, 3), MINUS)), (TWO, ZERO)), ((12, 7), (4, 7)))

    def test_more_rows_than_items(self):
        rows = ((ZERO, ZERO), (ONE, ONE), (TWO, TWO), (ONE, MINUS))
        self.assertEqual(solution_of(rows, (ZERO, THREE, (6, 1), ONE)), (TWO, ONE))
        self.assertIsNone(solution_of(rows, (ZERO, THREE, THREE, ONE)))
        self.assertIsNone(solution_of(rows, (ONE, THREE, (6, 1), ONE)))
        self.assertEqual(solution_of(((TWO,), (THREE,)), (ONE, (3, 2))), (HALF,))
        self.assertIsNone(solution_of(((TWO,), (THREE,)), (ONE, ONE)))

    def test_no_answer(self):
        self.assertIsNone(solution_of(((ZERO,),), (ONE,)))
        self.assertIsNone(solution_of(((ONE, TWO), (TWO, (4, 1))), (ONE, ONE)))

    def test_many_answers(self):
        self.assertIsNone(solution_of(((ZERO,),), (ZERO,)))
        self.assertIsNone(solution_of(((ONE, TWO), (TWO, (4, 1))), (ONE, TWO)))
        self.assertIsNone(solution_of(((ONE, TWO),), (ZERO,)))
        self.assertIsNone(solution_of(((ONE, ZERO, ZERO), (ZERO, ONE, ZERO)), (ONE, ONE)))
        self.assertIsNone(solution_of(((ONE, ZERO, ONE), (TWO, ZERO, ONE), (ONE, ZERO, THREE)), (ONE, ONE, ONE)))

    def test_answers_by_the_words(self):
        chance = random.Random(20)
        seen = {"one": 0, "none": 0, "many": 0}
        for _ in range(400):
            items = chance.randint(1, 5)
            rows = make_rows(chance, chance.randint(1, 6), items)
            if chance.random() < 0.7:
                answer = tuple(make_fraction(chance, 9, 9) for _ in range(items))
                goal = tuple(as_tuple(given(row, answer)) for row in rows)
            else:
                goal = tuple(make_fraction(chance, 9, 9) for _ in rows)
            both = tuple(row + (item,) for row, item in zip(rows, goal))
            found = solution_of(rows, goal)
            kind = "none" if rank(both) > rank(rows) else "one" if rank(rows) == items else "many"
            seen[kind] += 1
            self.assertEqual(found is not None, kind == "one", (rows, goal))
            if found is not None:
                self.assertEqual([as_tuple(given(row, found)) for row in rows], list(goal))
                self.assertEqual(found, tuple(as_tuple(number(one)) for one in found))
        self.assertGreater(min(seen.values()), 20, seen)

    def test_by_determinants(self):
        chance = random.Random(21)
        for many in range(1, 6):
            rows = tuple(tuple(make_fraction(chance, 9, 9) for _ in range(many)) for _ in range(many))
            goal = tuple(make_fraction(chance, 9, 9) for _ in range(many))
            whole = determinant([numbers(row) for row in rows])
            answer = []
            for place in range(many):
                put = [numbers(row) for row in rows]
                for row, item in zip(put, goal):
                    row[place] = number(item)
                answer.append(as_tuple(determinant(put) / whole))
            self.assertEqual(solution_of(rows, goal), tuple(answer))

    def test_great_numbers(self):
        big, more = (10 ** 60 + 7, 10 ** 50 + 1), (10 ** 61 + 1, 10 ** 55 + 3)
        rows = ((big, more), (more, (1, 10 ** 40)))
        answer = ((-(10 ** 33), 7), (3 ** 80, 2 ** 90))
        answer = tuple(as_tuple(number(one)) for one in answer)
        rows = tuple(tuple(as_tuple(number(item)) for item in row) for row in rows)
        goal = tuple(as_tuple(given(row, answer)) for row in rows)
        self.assertEqual(solution_of(rows, goal), answer)

    def test_thirteen_rows(self):
        chance = random.Random(13)
        rows = tuple(tuple(make_fraction(chance, 10 ** 6, 10 ** 4) for _ in range(13)) for _ in range(13))
        answer = tuple(make_fraction(chance, 10 ** 6, 10 ** 4) for _ in range(13))
        goal = tuple(as_tuple(given(row, answer)) for row in rows)
        self.assertEqual(solution_of(rows, goal), answer)
        self.assertIsNone(still_row(rows))
        self.assertIsNone(solution_of(rows[:12], goal[:12]))
        twice = rows[:12] + (rows[3],)
        self.assertIsNone(solution_of(twice, goal))
        self.assertTrue(all(given(row, still_row(twice)) == 0 for row in twice))


class StillRowTest(unittest.TestCase):
    def test_without(self):
        for rows in [((ONE,),), (((-1, 9),),), ((ZERO,), (HALF,)), ((ONE, TWO), (TWO, ONE)),
                     ((ZERO, ONE), (ZERO, ZERO), (TWO, ONE))]:
            self.assertIsNone(still_row(rows))

    def test_with(self):
        for rows in [((ZERO,),), ((ZERO,), (ZERO,)), ((ONE, TWO),), ((ONE, TWO), (TWO, (4, 1)), (ZERO, ZERO)),
                     ((ZERO, ONE),), ((ONE, ZERO),), ((ZERO, ZERO, ZERO),), ((ONE, HALF, (1, 3)), (ZERO, ZERO, TWO))]:
            self.still(rows, still_row(rows))

    def still(self, rows, found):
        self.assertIsInstance(found, tuple)
        self.assertEqual(len(found), len(rows[0]))
        self.assertTrue(any(one != ZERO for one in found))
        self.assertEqual(found, tuple(as_tuple(number(one)) for one in found))
        self.assertTrue(all(given(row, found) == 0 for row in rows), rows)

    def test_by_the_words(self):
        chance = random.Random(22)
        kinds = []
        for _ in range(300):
            rows = make_rows(chance, chance.randint(1, 6), chance.randint(1, 5))
            found = still_row(rows)
            kinds.append(found is None)
            self.assertEqual(found is None, rank(rows) == len(rows[0]), rows)
            if found is not None:
                self.still(rows, found)
        self.assertGreater(min(kinds.count(True), kinds.count(False)), 50)

    def test_always_the_same(self):
        rows = ((ONE, TWO, ZERO), (ZERO, ZERO, ZERO))
        self.assertEqual(still_row(rows), still_row(rows))


class KeptValuesTest(unittest.TestCase):
    def test_they_are_kept(self):
        self.assertEqual(kept_values(((HALF,),), (ONE,)), (TWO,))
        self.assertEqual(kept_values(((TWO,),), (ONE,)), (MINUS,))
        self.assertIsNone(kept_values(((ONE,),), (ONE,)))
        self.assertIsNone(kept_values(((ONE,),), (ZERO,)))
        rows, right = ((ZERO, TWO), ((1, 4), (1, 4))), (ONE, THREE)
        kept = kept_values(rows, right)
        self.assertEqual(
            [number(one) for one in kept], [given(row, kept) + number(item) for row, item in zip(rows, right)])
