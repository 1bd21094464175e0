"""A desk: a book changed, kept to duties, and asked by lines of words."""

from onelate.boxes import box_of
from onelate.books import with_rule, without_rules
from onelate.errors import Broken, Heavy, NoCommand, NoRule, Nothing, Wrong
from onelate.fractions import size_of
from onelate.reader import integer_of, number_of, read_book, rule_of, sum_of, words_of
from onelate.texts import show_book, show_number
from onelate.works import Works, is_pace

BOOK = "book"


class Desk:
    """Leads a Works that has the book of a text by the name "book"."""

    def __init__(self, text):
        book, names = read_book(text)
        self._names = names
        self._works = Works()
        self._works.put_book(BOOK, book)
        self._works.settle()

    def execute(self, line):
        """Does what a line says, and returns the list of what is answered; NoCommand()."""
        if not isinstance(line, str):
            raise Wrong(0)
        words = words_of(line)
        told = self._told(words)
        if told is not None:
            return told
        deed = self._deed_of(words)
        if deed is None:
            raise NoCommand()
        try:
            self._do(deed)
        except (Broken, NoRule, Nothing):
            return ["refused"]
        return ["done"]

    def works(self):
        """A twin of the Works."""
        return self._works.twin()

    def _told(self, words):
        """What is answered to words that ask, None if they do not."""
        book = self._works.called(BOOK)
        if words == ["book"]:
            return show_book(book, self._names).split("\n")
        if words == ["duties"]:
            return [shown_duty(duty) for duty in self._works.duties()]
        if words == ["ends"]:
            return shown_ends(book, self._names)
        return None

    def _deed_of(self, words):
        """The tuple of a word and what it is to be done with, None if the words say no deed."""
        if words in (["undo"], ["redo"]):
            return (words[0],)
        if words[:1] == ["keep"]:
            duty = duty_of(words[1:])
            return None if duty is None else ("keep", duty)
        if words[:1] == ["free"] and len(words) == 2:
            index = index_of(words[1], len(self._works.duties()))
            return None if index is None else ("free", index)
        if len(words) > 2 and words[0] in ("rule", "bar") and words[1] in self._names:
            return self._deed_about(words[0], self._names.index(words[1]), words[2:])
        return None

    def _deed_about(self, word, cell, words):
        """What _deed_of tells of words about a cell."""
        if word == "rule":
            parts = sum_of(words, self._names)
            return None if parts is None else ("rule", cell, rule_of(parts, self._names))
        if len(words) > 1:
            return None
        index = index_of(words[0], len(self._works.called(BOOK)[cell]))
        return None if index is None else ("bar", cell, index)

    def _do(self, deed):
        """Does a deed; Broken(duty), NoRule(cell), Nothing()."""
        word = deed[0]
        book = self._works.called(BOOK)
        if word == "rule":
            self._works.put_book(BOOK, with_rule(book, deed[1], deed[2]))
        elif word == "bar":
            self._works.put_book(BOOK, without_rules(book, (deed[1:],)))
        elif word == "keep":
            self._works.add_duty(deed[1])
        elif word == "free":
            self._works.drop_duty(deed[1])
        elif word == "undo":
            self._works.back()
        else:
            self._works.again()


def duty_of(words):
    """The duty about the book that words behind `keep` say, None if they say none."""
    if words == ["together"]:
        return ("together", BOOK)
    if len(words) != 2 or words[0] != "pace":
        return None
    pace = number_of(words[1])
    return ("pace", BOOK, pace) if is_pace(pace) else None


def index_of(word, many):
    """The index, of so many, that a word shows, None if it shows none."""
    index = integer_of(word)
    return None if index is None or index >= many else index


def shown_duty(duty):
    """The line of a duty about the book."""
    return "keep together" if duty[0] == "together" else "keep pace " + show_number(duty[2])


def shown_ends(book, names):
    """For each cell the line of its low and its high, of a heavy book one for all."""
    try:
        box = box_of(book)
    except Heavy:
        return ["heavy"]
    return [" ".join([name, signed(low), signed(high)]) for name, (low, high) in zip(names, box)]


def signed(number):
    """A FRACTION as a SIGNED."""
    return ("-" if number[0] < 0 else "") + show_number(size_of(number))
