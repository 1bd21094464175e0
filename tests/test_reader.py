"""[15]: the reader."""

import unittest

from onelate.errors import NoText, Wrong
from onelate.reader import read_book
from tests.judge import HALF, ONE, ZERO, odd_values

HEAD = "cell a\nrule 1\ncell b\n"
FORTY = "1234567890" * 4


def rule_read(words):
    """The rule that is read in a book of two cells, a and b."""
    book, names = read_book(HEAD + "rule " + words)
    assert names == ("a", "b") and book[0] == ((ONE, (ZERO, ZERO)),) and len(book[1]) == 1
    return book[1][0]


class ReaderTest(unittest.TestCase):
    def bad(self, text, line):
        with self.assertRaises(NoText, msg=text) as caught:
            read_book(text)
        self.assertEqual(caught.exception.line, line, text)

    def bad_sums(self, *sums):
        for words in sums:
            self.bad(HEAD + "rule " + words + "\nrule !", 3)

    def test_a_text(self):
        text = "cell a # one\nrule 1/2 b - 3\nrule 0\ncell b\nrule - 1 a + 2/3 b"
        first = (((-3, 1), (ZERO, HALF)), (ZERO, (ZERO, ZERO)))
        self.assertEqual(read_book(text), ((first, ((ZERO, ((-1, 1), (2, 3))),)), ("a", "b")))
        self.assertEqual(read_book("cell a\nrule 7"), (((((7, 1), (ZERO,)),),), ("a",)))

    def test_terms_in_any_order(self):
        told = (HALF, ((-3, 1), (2, 3)))
        for words in ("1/2 - 3 a + 2/3 b", "2/3 b + 1/2 - 3 a", "- 3 a + 2/3 b + 1/2", "- 3 a + 1/2 + 2/3 b"):
            self.assertEqual(rule_read(words), told)

    def test_zeros_with_names_and_behind_a_minus(self):
        for words in ("0", "- 0", "0 a", "- 0 a", "0 a - 0 b", "0 + 0 a", "0 b - 0"):
            self.assertEqual(rule_read(words), (ZERO, (ZERO, ZERO)))
        self.assertEqual(rule_read("1 a - 0"), (ZERO, (ONE, ZERO)))

    def test_blanks_remarks_and_skipped_lines(self):
        text = "# all\n\n  cell   a  #cell b\n   \n rule 1/2   a#- 1\n#\nrule 2 # # 3\n\n"
        self.assertEqual(read_book(text), ((((ZERO, (HALF,)), ((2, 1), (ZERO,))),), ("a",)))

    def test_great_integers(self):
        self.assertEqual(len(FORTY), 40)
        great = int(FORTY)
        self.assertEqual(rule_read(FORTY), ((great, 1), (ZERO, ZERO)))
        self.assertEqual(rule_read("1/" + FORTY + " a"), (ZERO, ((1, great), ZERO)))
        self.assertEqual(rule_read("- " + FORTY + "/7 b"), (ZERO, (ZERO, (-great, 7))))
        self.bad_sums(FORTY + "1", "1/" + FORTY + "1", "- " + FORTY + "1/2 b", "0" + FORTY)

    def test_integers_not_as_python_shows_them(self):
        self.bad_sums("01", "00", "007 a", "1/02", "01/2", "1_0", "+1", "-1", "1.0", "0x1", "1e3", "-0", "1/-2")

    def test_numbers_not_in_lowest_terms(self):
        self.bad_sums("2/4", "3/3", "6/4 a", "0/2", "0/3 b", "10/5")

    def test_numbers_over_one_and_zero(self):
        self.bad_sums("2/1", "0/1", "1/1 a", "1/0", "0/0", "1/2/3", "1/", "/2", "/", "1 / 2", "1 /2", "1/ 2")

    def test_what_is_no_sum(self):
        self.bad_sums(
            "", "+", "-", "+ 1", "- - 1", "1 +", "1 -", "1 + + 2 a", "1 + - 2 a", "a", "a 1", "1 a b", "1 a 2", "1 2",
            "1 a+ 2 b", "1 a +2 b", "1 a - b", "- a", "1 *", "2 a , 1", "1 + a", "1 a b + 1")

    def test_names_that_are_none(self):
        self.bad_sums("1 A", "1 abcdefg", "1 a1", "1 aB", "1 a-b", "1 a\tb")

    def test_names_of_no_cell(self):
        self.bad_sums("1 c", "1 a + 2 rule", "1 cell", "0 c", "1 aa")
        self.assertEqual(rule_read("1 a + 1 b")[1], (ONE, ONE))

    def test_names_of_cells_below(self):
        book, names = read_book("cell a\nrule 1 c\nrule 2 b\ncell c\nrule 1 b\ncell b\nrule 0")
        self.assertEqual(names, ("a", "c", "b"))
        self.assertEqual([rule[1] for rule in book[0]], [(ZERO, ONE, ZERO), (ZERO, ZERO, (2, 1))])

    def test_a_name_is_known_by_any_line_whose_first_word_is_cell(self):
        self.bad("cell b\nrule 1 a\ncell a x\nrule 1", 2)
        self.bad("cell b\nrule 1 a\nrule 1 c\ncell a\nrule 1", 2)
        self.bad("cell b\nrule 1 a\n# cell a\ncell c\nrule 1", 1)
        self.bad("cell b\nrule 1 a\ncell c a\nrule 1", 1)
        self.bad("cell b\nrule 1 A\ncell A\nrule 1", 1)
        self.bad("cell b\nrule 1 a\ncell # a", 1)

    def test_names_and_numbers_twice(self):
        self.bad_sums("1 a + 2 a", "1 a - 1 a", "0 a + 0 a", "1 + 2", "1 + 1 a - 3", "0 + 0", "1 b + 1 a + 1 b")

    def test_cell_lines(self):
        for line in ("cell", "cell A", "cell abcdefg", "cell a b", "cell 1", "cell a1", "cell a a", "Cell a", "cells a",
                     "cella", "cell a, b"):
            self.bad(line + "\nrule 1", 0)
        self.assertEqual(read_book("cell cell\nrule 1 cell\ncell rule\nrule 1 rule")[1], ("cell", "rule"))
        self.assertEqual(read_book("cell abcdef\nrule 1")[1], ("abcdef",))

    def test_a_name_that_a_cell_above_has(self):
        self.bad("cell a\nrule 1\ncell b\nrule 1\ncell a\nrule 1", 4)

    def test_a_cell_line_without_rules_above(self):
        self.bad("cell a\ncell b\nrule 1", 1)
        self.bad("cell a\n\n# rule 1\n  \ncell b\nrule 1", 4)
        self.bad("cell a\nrule 1\ncell b\ncell c\nrule 1", 3)

    def test_a_rule_line_without_a_cell_above(self):
        self.bad("rule 1\ncell a\nrule 1", 0)
        self.bad("\n# cell a\nrule 1 a\ncell a\nrule 1", 2)

    def test_other_lines(self):
        for line in ("x", "rules 1", "Rule 1", "0", "1 a", "- 1", "rule1", "a cell", "=", "\t", "cell\ta", "rule\t1"):
            self.bad("cell a\nrule 1\n" + line, 2)

    def test_the_first_bad_line_is_told(self):
        self.bad("cell a\nrule 1\nrule 2/4\nrule 01\ncell a", 2)
        self.bad("cell a\nx\ncell a", 1)

    def test_no_cell_or_no_rule_of_the_last_one(self):
        self.bad("", 1)
        self.bad("\n", 2)
        self.bad(" \n# cell a\n", 3)
        self.bad("cell a", 1)
        self.bad("cell a\n", 2)
        self.bad("cell a\nrule 1\ncell b", 3)
        self.bad("cell a\nrule 1\ncell b\n# rule 1\n\n", 6)

    def test_wrong(self):
        for thing in odd_values() + [b"cell a\nrule 1", ["cell a", "rule 1"], ("cell a\nrule 1",)]:
            if not isinstance(thing, str):
                with self.assertRaises(Wrong) as caught:
                    read_book(thing)
                self.assertEqual(caught.exception.place, 0)
