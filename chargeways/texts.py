"""Texts of books, and lines of deeds: how they are written, and how they are read."""

from chargeways.books import FAILS, MOST_BATCH, Book
from chargeways.checks import is_between
from chargeways.deeds import is_deed
from chargeways.errors import InvalidDeed, InvalidText
from chargeways.numerals import is_numeral, line_from
from chargeways.rows import ROW_KINDS, fits_batch, fits_shared, is_row

# the words of the last line, behind which True and False stand
SHARED_WORDS = ("apart", "shared")
SETTLES_WORDS = ("stays", "settles")

LINES = ("take", "give", "move", "lift", "fails", "holds", "batch", "last")


def text_of(book):
    """The text of the book."""
    lines = [line_from([kind, *book.row(kind)]) for kind in ROW_KINDS]
    lines.append(line_from(["fails", book.fails]))
    lines.append(line_from(["holds", *book.holds]))
    lines.append(line_from(["batch", book.batch]))
    lines.append(line_from([SHARED_WORDS[int(book.shared)], SETTLES_WORDS[int(book.settles)]]))
    return "".join([f"{line}\n" for line in lines])


def read_holds(words):
    """The holds of these words, None if they are none, or in another sequence."""
    holds = tuple([kind for kind in ROW_KINDS if kind in words])
    return holds if holds == tuple(words) else None


def read_part(name, words):
    """The part of a book that the words behind the name tell, None if they tell none."""
    if name in ROW_KINDS:
        return tuple(words) if is_row(name, tuple(words)) else None
    if name == "holds":
        return read_holds(words)
    if len(words) != 1:
        return None
    if name == "fails":
        return words[0] if words[0] in FAILS else None
    if not is_numeral(words[0]):
        return None
    batch = int(words[0])
    return batch if is_between(batch, 1, MOST_BATCH) else None


def read_line(name, line):
    """The parts of a book that the line with this name tells, as a dict; None if it is no such line."""
    words = line.split(" ")
    if name == "last":
        if len(words) != 2 or words[0] not in SHARED_WORDS or words[1] not in SETTLES_WORDS:
            return None
        return {"shared": words[0] == SHARED_WORDS[1], "settles": words[1] == SETTLES_WORDS[1]}
    if words[0] != name:
        return None
    part = read_part(name, words[1:])
    return None if part is None else {name: part}


def read_book(text):
    """The book whose text this is."""
    if not isinstance(text, str):
        raise InvalidText(1)
    # what stands behind the last line feed is no line
    lines = text.split("\n")
    parts = {}
    for position, name in enumerate(LINES):
        told = read_line(name, lines[position]) if position < len(lines) - 1 else None
        if told is None:
            raise InvalidText(position + 1)
        parts = {**parts, **told}
    if lines[len(LINES):] != [""]:
        raise InvalidText(len(LINES) + 1)
    if not fits_batch(parts["take"], parts["batch"]):
        raise InvalidText(1)
    if not fits_shared(parts["move"], parts["shared"]):
        raise InvalidText(3)
    return Book(**parts)


def line_of(deed):
    """The line of the deed."""
    if not is_deed(deed):
        raise InvalidDeed(deed)
    return line_from(["none" if part is None else part for part in deed])


def deed_from(value):
    """The deed whose line this is, None if the value is no line of one."""
    if not isinstance(value, str):
        return None
    word, *numerals = value.split(" ")
    numbers = []
    for numeral in numerals:
        if numeral != "none" and not is_numeral(numeral):
            return None
        numbers.append(None if numeral == "none" else int(numeral))
    deed = (word, *numbers)
    return deed if is_deed(deed) else None


def read_deed(line):
    """The deed whose line this is."""
    deed = deed_from(line)
    if deed is None:
        raise InvalidText(1)
    return deed
