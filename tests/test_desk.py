"""[49]: Desk."""

import random
import unittest
from fractions import Fraction

from onelate.boxes import box_of
from onelate.desk import Desk
from onelate.errors import LateError, NoCommand, NoText, Nothing, Wrong
from onelate.reader import read_book
from onelate.texts import show_book
from onelate.weights import weights_of
from onelate.works import Works
from tests.judge import HALF, ONE, TWO, ZERO, as_tuple, great_book, number, odd_values
from tests.test_works import state, whole_state

TEXT = "cell a # one\nrule 1 + 1/2 b\nrule - 1/3 a\n\ncell b\nrule 1/2 a - 2"
BOOK, NAMES = read_book(TEXT)
LINES = ["cell a", "rule 1 + 1/2 b", "rule - 1/3 a", "cell b", "rule - 2 + 1/2 a"]
DONE, REFUSED = ["done"], ["refused"]
TINY = "cell a\nrule 1 + 1/2 a"


class DeskTest(unittest.TestCase):
    def setUp(self):
        self.desk = Desk(TEXT)

    def ask(self, line, told):
        answer = self.desk.execute(line)
        self.assertEqual(answer, told, line)
        self.assertIsInstance(answer, list)

    def same(self, line, told):
        """It is answered so, and nothing has changed then."""
        before = whole_state(self.desk.works())
        self.ask(line, told)
        self.assertEqual(whole_state(self.desk.works()), before, line)

    def no_command(self, *lines):
        for line in lines:
            before = whole_state(self.desk.works())
            with self.assertRaises(NoCommand, msg=repr(line)):
                self.desk.execute(line)
            self.assertEqual(whole_state(self.desk.works()), before, line)

    def wrong(self, call, *arguments):
        with self.assertRaises(Wrong) as caught:
            call(*arguments)
        self.assertEqual(caught.exception.place, 0)


class TextTest(DeskTest):
    def test_the_works_at_first(self):
        self.assertEqual(state(self.desk.works()), ([("book", "book")], {"book": BOOK}, []))

    def test_no_text(self):
        for text, line in [("", 1), ("\n", 2), ("cell a", 1), ("rule 1\ncell a", 0), ("cell a\nrule 1 b", 1),
                           ("cell a\nrule 1\ncell a", 2), ("cell a\n\nrule 2/4 a", 2), ("book", 0)]:
            with self.assertRaises(NoText, msg=repr(text)) as caught:
                Desk(text)
            self.assertEqual(caught.exception.line, line)

    def test_what_is_no_string(self):
        for thing in odd_values() + [BOOK, (TEXT,), [TEXT]]:
            if not isinstance(thing, str):
                self.wrong(Desk, thing)
                self.wrong(self.desk.execute, thing)

    def test_books_with_a_heavy_lot(self):
        self.desk = Desk("cell a\nrule 2 a")
        self.same("ends", ["heavy"])
        self.same("keep together", REFUSED)
        self.same("book", ["cell a", "rule 2 a"])
        self.ask("rule a 1/2 a", DONE)
        self.ask("bar a 0", DONE)
        self.same("ends", ["a 0 0"])
        self.ask("keep together", DONE)


class AnswersTest(DeskTest):
    def test_book(self):
        self.same("book", LINES)
        self.ask("rule b 7 - 1/9 b - 2 a", DONE)
        self.same("book", LINES + ["rule 7 - 2 a - 1/9 b"])
        self.assertEqual("\n".join(self.desk.execute("book")), show_book(self.desk.works().called("book"), NAMES))

    def test_duties(self):
        self.same("duties", [])
        for line in ("keep pace 99/100", "keep together", "keep pace 1", "keep together"):
            self.ask(line, DONE)
        self.same("duties", ["keep pace 99/100", "keep together", "keep pace 1", "keep together"])
        self.ask("free 1", DONE)
        self.same("duties", ["keep pace 99/100", "keep pace 1", "keep together"])
        self.ask("free 2", DONE)
        self.ask("free 0", DONE)
        self.same("duties", ["keep pace 1"])
        self.assertEqual(self.desk.works().duties(), [("pace", "book", ONE)])

    def test_ends(self):
        box = box_of(BOOK)
        words = [[str(Fraction(*end)) for end in ends] for ends in box]
        self.same("ends", ["a " + " ".join(words[0]), "b " + " ".join(words[1])])
        self.desk = Desk("cell a\nrule 1/2 b\nrule - 1/3\ncell b\nrule 0\nrule 4/3\ncell c\nrule - 2")
        self.same("ends", ["a -1/3 2/3", "b 0 4/3", "c -2 -2"])
        self.desk = Desk("cell x\nrule - 1/2 y - 3\ncell y\nrule x\ncell z\nrule 1".replace("rule x", "rule 1 x"))
        self.same("ends", ["x -2 -2", "y -2 -2", "z 1 1"])

    def test_lists_are_new(self):
        for line in ("book", "duties", "ends", "keep together"):
            first = list(self.desk.execute(line))
            self.desk.execute(line).append("x")
            if line != "keep together":
                self.assertEqual(self.desk.execute(line), first)
        self.desk.execute("undo").clear()
        self.ask("undo", DONE)


class DeedsTest(DeskTest):
    def rules(self, cell):
        return self.desk.works().called("book")[cell]

    def test_rule(self):
        for words, rule in [
                ("0", (ZERO, (ZERO, ZERO))), ("- 0", (ZERO, (ZERO, ZERO))), ("5", ((5, 1), (ZERO, ZERO))),
                ("- 1/2 b + 3 a - 7", ((-7, 1), ((3, 1), (-1, 2)))), ("1 b", (ZERO, (ZERO, ONE))),
                ("0 a + 2/3", ((2, 3), (ZERO, ZERO))), ("- 0 b", (ZERO, (ZERO, ZERO))),
                ("1 + 2 a + 1/2 b", (ONE, (TWO, HALF)))]:
            for cell, name in enumerate("ab"):
                before, beside = self.rules(cell), self.rules(1 - cell)
                self.ask(f"rule {name} {words}", DONE)
                self.assertEqual((self.rules(cell), self.rules(1 - cell)), (before + (rule,), beside))

    def test_bar(self):
        self.ask("bar a 0", DONE)
        self.assertEqual(self.rules(0), BOOK[0][1:])
        self.same("bar a 0", REFUSED)
        self.same("bar b 0", REFUSED)
        self.no_command("bar a 1", "bar b 1")
        self.ask("rule b 1/3 b", DONE)
        self.ask("bar b 0", DONE)
        self.same("book", ["cell a", "rule - 1/3 a", "cell b", "rule 1/3 b"])

    def test_keep(self):
        self.ask("keep together", DONE)
        self.ask("keep pace 3/5", DONE)
        self.same("keep pace 1/3", REFUSED)
        self.same("keep pace 1/2", REFUSED)
        self.assertEqual(self.desk.works().duties(), [("together", "book"), ("pace", "book", (3, 5))])
        self.same("rule a 1 a", REFUSED)
        self.same("rule a 3/5 a", REFUSED)
        self.ask("rule a 59/100 a", DONE)
        self.ask("free 1", DONE)
        self.ask("rule a 99/100 a", DONE)
        self.same("rule a 1 a", REFUSED)
        self.ask("free 0", DONE)
        self.ask("rule a 1 a", DONE)
        self.same("ends", ["heavy"])

    def test_undo_and_redo(self):
        self.same("undo", REFUSED)
        self.same("redo", REFUSED)
        before = [state(self.desk.works())]
        for line in ("rule a 1/3 b", "bar a 0", "keep together", "keep pace 1", "free 0", "rule b 1/4 b"):
            self.ask(line, DONE)
            before.append(state(self.desk.works()))
        for _ in range(2):
            for told in before[-2::-1]:
                self.ask("undo", DONE)
                self.assertEqual(state(self.desk.works()), told)
            self.same("undo", REFUSED)
            self.assertEqual(self.desk.works().called("book"), BOOK)
            for told in before[1:]:
                self.ask("redo", DONE)
                self.assertEqual(state(self.desk.works()), told)
            self.same("redo", REFUSED)

    def test_something_done_between(self):
        self.ask("rule a 1/3 b", DONE)
        self.ask("undo", DONE)
        self.same("ends", self.desk.execute("ends"))
        self.same("bar b 0", REFUSED)
        self.no_command("redo 1")
        self.ask("redo", DONE)
        self.ask("undo", DONE)
        self.ask("keep together", DONE)
        self.same("redo", REFUSED)

    def test_undo_is_no_deed_about_the_text(self):
        """However often, undo goes no farther than the text."""
        for _ in range(3):
            self.same("undo", REFUSED)
            self.assertEqual(self.desk.works().called("book"), BOOK)
        self.ask("keep together", DONE)
        self.ask("undo", DONE)
        self.same("undo", REFUSED)
        self.same("book", LINES)


class WordsTest(DeskTest):
    def test_blanks_and_remarks(self):
        for line in ("book", " book", "book ", "   book   ", "book#", "book # all of it", " book #a\nb#", "book#book"):
            self.same(line, LINES)
        self.ask("  keep   pace  99/100  # as it was", DONE)
        self.ask("rule  a   1/2   a  -  3#", DONE)
        self.ask(" free 0 ", DONE)
        self.ask("bar a  2 # the last one", DONE)
        self.ask("undo#", DONE)
        self.assertEqual(self.desk.works().called("book")[0][-1], ((-3, 1), (HALF, ZERO)))

    def test_line_feeds(self):
        """A line feed is a sign of a word; behind a # it is left out."""
        self.no_command("book\n", "\nbook", "undo\n", "\n", "keep\ntogether", "keep together\n", "rule a\n1", "rule a 1\n",
                        "bar a 0\n", "ends \n", "keep pace 1\n", "\n#", "rule a 1 a\n+ 1")
        self.same("book #\n", LINES)
        self.same("duties # a\nkeep together\n", [])
        self.same("book#\nundo", LINES)

    def test_without_a_word(self):
        self.no_command("", " ", "    ", "#", "# book", "   # keep together", "#\nbook")

    def test_other_lines(self):
        self.no_command(
            "Book", "books", "book book", "book a", "duties 0", "ends a", "undo 1", "undo undo", "redo redo", "free",
            "free a", "keep", "keep it", "keep together now", "keep pace", "keep pace 1 1", "keep within 0 1", "rule",
            "rule a", "bar", "bar a", "bar 0", "cell a", "cell c", "help", "drop book", "put", "back", "again", "a", "1",
            "rule 1", "bar a 0 0", "bar a b", "keep stands a b", "together", "pace 1", "-", "undo x")

    def test_names(self):
        self.no_command("rule c 1", "bar c 0", "rule A 1", "rule aa 1", "rule 0 1", "bar 0 0", "rule book 1", "rule a 1 c",
                        "rule a 1 A", "rule a 1 a1", "rule - 1", "rule a 1 book")

    def test_numbers(self):
        for word in ("2/4", "1/1", "0/1", "0/2", "01", "1/02", "00", "+1", "-1", "1/0", "1/", "/2", "1.5", "x", "1/2/3",
                     "1" * 41, "1_0", "1/2a", "\t1", "1\t", "--1"):
            self.no_command("keep pace " + word, f"rule a {word}", f"rule a {word} a", f"rule a 1 - {word} b")
            self.no_command("bar a " + word, "free " + word)
        self.ask(f"rule a 1/{'7' * 40} b", DONE)

    def test_paces_that_are_0_or_above_1(self):
        self.no_command("keep pace 0", "keep pace 2", "keep pace 3/2", "keep pace 10001/10000", f"keep pace {'9' * 40}")
        self.ask("keep pace 1", DONE)
        self.ask("keep pace 9999/10000", DONE)
        self.same(f"keep pace 1/{'9' * 40}", REFUSED)

    def test_sums_that_are_bad(self):
        self.no_command(
            "rule a +", "rule a -", "rule a + 1", "rule a 1 +", "rule a 1 -", "rule a 1 + + 1 a", "rule a - - 1",
            "rule a 1 1", "rule a 1 a b", "rule a a", "rule a 1 a + 2 a", "rule a 1 + 2", "rule a 1 a - 0 a", "rule a 1 a 1",
            "rule a 0 + 0", "rule a 1 a + b", "rule a 1a", "rule a 1+1", "rule a 1 a+1")

    def test_indexes(self):
        self.no_command("bar a 2", "bar a -1", "bar a 00", "bar a 01", "bar a 1/1", "bar b 1", "bar a " + "0" * 2,
                        "bar a " + "1" * 40, "bar a " + "1" * 41, "free 0", "free -1")
        self.ask("keep together", DONE)
        self.no_command("drop 0", "undo 0", "duties 0", "keep 0", "bar 0", "drop a 0", "cell a 0", "keep a 0", "free a 0")
        self.no_command("keep within 1", "keep place 1/2", "keep together 1", "pace 1", "free pace 1")
        self.no_command("free 1", "free 00", "free -0", "free 0 0", "free +0", "free 0/1")
        self.ask("free 0", DONE)
        self.no_command("free 0")

    def test_cells_called_as_words_are(self):
        self.desk = Desk("cell rule\nrule 1/2 book\ncell book\nrule 1 cell\ncell cell\nrule 1\ncell bar\nrule 1/2 rule\n"
                         "cell keep\nrule 0\ncell undo\nrule 0")
        self.same("book", ["cell rule", "rule 1/2 book", "cell book", "rule 1 cell", "cell cell", "rule 1", "cell bar",
                           "rule 1/2 rule", "cell keep", "rule 0", "cell undo", "rule 0"])
        self.ask("rule rule 1/3 cell", DONE)
        self.ask("bar rule 0", DONE)
        self.ask("rule bar 1 undo", DONE)
        self.ask("bar bar 1", DONE)
        self.no_command("rule", "bar bar", "keep keep", "undo undo", "cell 1")
        self.same("ends", ["rule 1/3 1/3", "book 1 1", "cell 1 1", "bar 1/6 1/6", "keep 0 0", "undo 0 0"])


class WorksOfDeskTest(DeskTest):
    def test_a_twin(self):
        self.ask("keep together", DONE)
        self.ask("rule a 1/9 a", DONE)
        self.ask("undo", DONE)
        works, other = self.desk.works(), self.desk.works()
        self.assertIsInstance(works, Works)
        before = whole_state(other)
        works.again()
        works.drop_duty(0)
        works.put_book("more", BOOK)
        works.drop("book")
        self.assertEqual(whole_state(self.desk.works()), before)
        self.assertEqual(whole_state(other), before)
        self.ask("redo", DONE)
        self.assertEqual(list(works.names()), ["more"])
        self.assertEqual(self.desk.works().called("book")[0][-1], (ZERO, ((1, 9), ZERO)))

    def test_what_is_read_cannot_be_taken_back(self):
        works = self.desk.works()
        for call in (works.back, works.again):
            with self.assertRaises(Nothing):
                call()
        self.ask("rule a 1", DONE)
        works = self.desk.works()
        works.back()
        self.assertEqual(works.called("book"), BOOK)
        self.assertRaises(Nothing, works.back)

    def test_desks_go_their_own_ways(self):
        other = Desk(TEXT)
        self.ask("keep together", DONE)
        self.assertEqual(other.execute("duties"), [])


class ManyTest(DeskTest):
    def make_line(self, chance):
        name, number_of = chance.choice("abc"), lambda: str(Fraction(chance.randint(0, 6), chance.randint(1, 6)))
        word = chance.choice(("rule", "rule", "bar", "keep", "pace", "free", "undo", "redo"))
        return {
            "rule": f"rule {name} {chance.choice(('', '- '))}{number_of()} {chance.choice('abc')} "
                    f"{chance.choice('+-')} {number_of()}",
            "bar": f"bar {name} {chance.randint(0, 3)}", "keep": "keep together", "pace": "keep pace " + number_of(),
            "free": f"free {chance.randint(0, 2)}"}.get(word, word)

    def test_beside_a_works(self):
        """Each deed is done in a Works beside it, by what the words say."""
        seen = []
        for seed in range(25):
            chance = random.Random(seed)
            desk = Desk("cell a\nrule 1/2 b\ncell b\nrule 1/3 c + 1\ncell c\nrule - 1/2 a")
            for _ in range(40):
                line, before = self.make_line(chance), desk.works()
                try:
                    told = desk.execute(line)
                except NoCommand:
                    told = None
                seen.append(told)
                after = desk.works()
                expected = self.by_hand(line.split(), before)
                self.assertEqual(told, expected, line)
                self.assertEqual(whole_state(after), whole_state(before), line)
                book = after.called("book")
                ends = desk.execute("ends")
                if weights_of(book) is None:
                    self.assertEqual(ends, ["heavy"])
                else:
                    self.assertEqual([[as_tuple(Fraction(word)) for word in line.split()[1:]] for line in ends],
                                     [list(pair) for pair in box_of(book)])
                self.assertEqual(read_book("\n".join(desk.execute("book"))), (book, ("a", "b", "c")))
        for kind in (DONE, REFUSED, None):
            self.assertGreater(seen.count(kind), 100)

    def by_hand(self, words, works):
        """Does what the words say in a Works; returns what is to be answered, None for no command."""
        book = works.called("book")
        if words[0] == "keep" and len(words) == 3 and not 0 < Fraction(words[2]) <= 1:
            return None
        if words[0] == "free" and int(words[1]) >= len(works.duties()):
            return None
        if words[0] == "bar" and int(words[2]) >= len(book["abc".index(words[1])]):
            return None
        try:
            if words[0] == "keep":
                works.add_duty(("together", "book") if words[1] == "together" else
                               ("pace", "book", as_tuple(Fraction(words[2]))))
            elif words[0] == "free":
                works.drop_duty(int(words[1]))
            elif words[0] in ("undo", "redo"):
                (works.back if words[0] == "undo" else works.again)()
            else:
                cells = list(book)
                at = "abc".index(words[1])
                if words[0] == "bar":
                    cells[at] = cells[at][:int(words[2])] + cells[at][int(words[2]) + 1:]
                    if cells[at] == ():
                        return REFUSED
                else:
                    cells[at] += (self.rule_of(words[2:]),)
                works.put_book("book", tuple(cells))
        except LateError:
            return REFUSED
        return DONE

    def rule_of(self, words):
        minus = words[0] == "-"
        value, name, sign, told = words[minus:]
        factors = [ZERO] * 3
        factors["abc".index(name)] = as_tuple(-Fraction(value) if minus else Fraction(value))
        return (as_tuple(-Fraction(told) if sign == "-" else Fraction(told)), tuple(factors))

    def test_at_the_bounds(self):
        book = great_book(random.Random(0), Fraction(1, 7))
        names = ("abcdef", "b", "c", "d", "e", "ffffff")
        self.desk = Desk(show_book(book, names))
        self.ask("keep together", DONE)
        self.ask("keep pace 99/100", DONE)
        self.same("rule b 1 b", REFUSED)
        self.ask("rule b 1/2 + 1/9 c", DONE)
        self.ask("bar abcdef 1", DONE)
        self.assertEqual(len(self.desk.execute("ends")), 6)
        for line, (low, high) in zip(self.desk.execute("ends"), box_of(self.desk.works().called("book"))):
            self.assertEqual([Fraction(word) for word in line.split()[1:]], [number(low), number(high)])
        self.ask("undo", DONE)
        self.ask("undo", DONE)
        self.assertEqual(self.desk.works().called("book"), book)
