"""A book read from a text."""

from onelate.errors import NoText, Wrong
from onelate.forms import is_fraction, is_name

DIGITS = "0123456789"
MOST_DIGITS = 40


def read_book(text):
    """The tuple (book, names) of a text; NoText(line) with the first line that is BAD."""
    if not isinstance(text, str):
        raise Wrong(0)
    lines = [words_of(line) for line in text.split("\n")]
    known = [words[1] for words in lines if len(words) > 1 and words[0] == "cell"]
    names = []
    cells = []
    for index, words in enumerate(lines):
        if not words:
            continue
        if is_new_cell(words, names, cells):
            names.append(words[1])
            cells.append([])
        elif words[0] == "rule" and cells:
            cells[-1].append(known_sum(words[1:], known, index))
        else:
            raise NoText(index)
    if not cells or not cells[-1]:
        raise NoText(len(lines))
    return (tuple(tuple(rule_of(parts, names) for parts in cell) for cell in cells), tuple(names))


def words_of(line):
    """The words of a line, its remark left out."""
    return [word for word in line.split("#")[0].split(" ") if word != ""]


def is_new_cell(words, names, cells):
    """Whether words are a `cell` line that may stand behind these cells."""
    if len(words) != 2 or words[0] != "cell" or not is_name(words[1]):
        return False
    return words[1] not in names and (not cells or cells[-1] != [])


def known_sum(words, known, index):
    """What sum_of returns; NoText(index) if the words are no SUM of these names."""
    parts = sum_of(words, known)
    if parts is None:
        raise NoText(index)
    return parts


def sum_of(words, known):
    """The dict from the names of a SUM, "" for no name, to their numbers, None if it is BAD."""
    parts = {}
    for sign, term in terms_of(words):
        name = term[1] if len(term) == 2 else ""
        number = number_of(term[0]) if 1 <= len(term) <= 2 else None
        if number is None or name in parts:
            return None
        if len(term) == 2 and (not is_name(name) or name not in known):
            return None
        parts[name] = (-number[0], number[1]) if sign == "-" else number
    return parts


def terms_of(words):
    """The words cut at their signs: tuples of a sign and the list of the words behind it."""
    # A first term without a sign is read as if `+` stood there; a `+` that does
    # stand there leaves a term without words, which is BAD.
    signed = words if words[:1] == ["-"] else ["+"] + words
    terms = []
    for word in signed:
        if word in ("+", "-"):
            terms.append((word, []))
        else:
            terms[-1][1].append(word)
    return terms


def number_of(word):
    """The FRACTION of a NUMBER, None if it is BAD."""
    parts = [integer_of(part) for part in word.split("/")]
    if len(parts) > 2 or None in parts:
        return None
    if len(parts) == 1:
        return (parts[0], 1)
    number = (parts[0], parts[1])
    return number if parts[1] > 1 and is_fraction(number) else None


def integer_of(word):
    """The integer from 0 on that Python shows by this word, None if there is none."""
    if not 1 <= len(word) <= MOST_DIGITS or not all(sign in DIGITS for sign in word):
        return None
    if word[0] == "0" and word != "0":
        return None
    return int(word)


def rule_of(parts, names):
    """The RULE of a SUM that was read, for the cells with these names."""
    return (parts.get("", (0, 1)), tuple(parts.get(name, (0, 1)) for name in names))
