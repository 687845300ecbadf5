"""Books for the tests of what tables say: many of all kinds, some with few states, some that keep wishes."""

import itertools
import random

from chargeways.books import Book
from chargeways.charts import chart_of
from chargeways.errors import TooMany
from chargeways.tables import keeps
from common import FAILS, KINDS, ROWS, draw_book, fits

# moves that remember the home, and come and go along both ways
WHOLE_MOVES = [(), ("home", "try", "set", "off"), ("home", "look", "add", "set", "off"),
               ("home", "add", "look", "set", "off"), ("home", "look", "set", "add", "off"),
               ("home", "look", "set", "off", "add")]

WHOLE_TAKES = [("try", "live"), ("look", "add", "live"), ("add", "look", "live")]


def size_of(book):
    """How many states the table of the book has, None if these are too many."""
    try:
        return len(chart_of(book))
    except TooMany:
        return None


def books_with_each_row(seed, most=450):
    """For each row of each kind, and each fails, a drawn book with a table of at most so many states."""
    draw = random.Random(seed)
    for kind in KINDS:
        for row, fails in itertools.product(ROWS[kind], FAILS):
            if kind == "move" and fails != draw.choice(FAILS):
                continue
            yield small_book(draw, most, {kind: row, "fails": fails})


def small_book(draw, most, parts):
    """A drawn book with these parts, and a table of at most so many states."""
    while True:
        found = draw_book(draw)
        whole = {kind: found.row(kind) for kind in KINDS}
        whole.update(fails=found.fails, shared=found.shared, holds=found.holds, batch=found.batch,
                     settles=found.settles)
        whole.update(parts)
        if fits(whole):
            size = size_of(Book(**whole))
            if size is not None and size <= most:
                return Book(**whole)
        # a row with many words has a small table only beside small ones
        most += 25


def kept_books(seed, many, **parts):
    """So many drawn books with these parts that keep "once" and "kept"."""
    draw = random.Random(seed)
    found = []
    while len(found) < many:
        whole = {"take": draw.choice(WHOLE_TAKES), "give": draw.choice([("home", "off", "end"), ("home", "end", "off")]),
                 "move": draw.choice(WHOLE_MOVES), "lift": draw.choice([("both",), ("both",), ("set", "off"), ()]),
                 "fails": draw.choice(FAILS), "shared": draw.random() < 0.5, "batch": draw.choice([1, 1, 2, 4]),
                 "holds": [kind for kind in KINDS if draw.random() < 0.8], "settles": draw.random() < 0.6}
        whole.update(parts)
        book = Book(**whole)
        if size_of(book) is not None and keeps(book, "once") and keeps(book, "kept"):
            found.append(book)
    return found
