"""Books: of what words walks consist, and all else that decides how they go."""

from chargeways.checks import are_different_words, is_an_integer, is_list, is_word
from chargeways.errors import InvalidCount, InvalidHolds, InvalidKind, InvalidRow, InvalidWord
from chargeways.rows import ROW_KINDS, fits_batch, fits_shared, is_row

FAILS = ("undo", "leave", "wait")

MOST_BATCH = 50


def check_rows(rows):
    """Raise InvalidRow for the first row that is none of its kind by itself."""
    for kind, row in rows.items():
        if not is_row(kind, row):
            raise InvalidRow(kind, row)


def check_fails(value):
    """Raise InvalidWord unless the value tells what a walk does whose test fails."""
    if not is_word(value, FAILS):
        raise InvalidWord("fails", value)


def check_bool(name, value):
    """Raise InvalidWord with this name unless the value is True or False."""
    if not isinstance(value, bool):
        raise InvalidWord(name, value)


def check_holds(value):
    """Raise InvalidHolds unless the value is a list of different kinds that have rows."""
    if not is_list(value) or not are_different_words(value, ROW_KINDS):
        raise InvalidHolds(value)


def check_batch(value):
    """Raise InvalidCount unless the value is a batch."""
    if not is_an_integer(value) or not 1 <= value <= MOST_BATCH:
        raise InvalidCount(value)


def check_row_kind(value):
    """Raise InvalidKind unless the value is a kind that has a row."""
    if not is_word(value, ROW_KINDS):
        raise InvalidKind(value)


class Book:
    """What walks consist of and how they go; a book never changes."""

    KINDS = ("take", "give", "move", "lift", "settle")

    def __init__(self, *, take=("try", "live"), give=("home", "off", "end"), move=("home", "try", "set", "off"),
                 lift=("both",), fails="undo", shared=True, holds=("take", "give", "move", "lift"), batch=1,
                 settles=True):
        rows = {"take": take, "give": give, "move": move, "lift": lift}
        check_rows(rows)
        check_fails(fails)
        check_bool("shared", shared)
        check_holds(holds)
        check_batch(batch)
        check_bool("settles", settles)
        if not fits_batch(take, batch):
            raise InvalidRow("take", take)
        if not fits_shared(move, shared):
            raise InvalidRow("move", move)
        sorted_holds = tuple([kind for kind in ROW_KINDS if kind in holds])
        self._parts = {**rows, "fails": fails, "shared": shared, "holds": sorted_holds, "batch": batch,
                       "settles": settles}

    def __eq__(self, other):
        return isinstance(other, Book) and self._parts == other._parts

    def __repr__(self):
        parts = ", ".join([f"{name}={value!r}" for name, value in self._parts.items()])
        return f"Book({parts})"

    @property
    def fails(self):
        """What a walk does whose test fails."""
        return self._parts["fails"]

    @property
    def shared(self):
        """Whether a move goes as well through the groups that both of its ways have."""
        return self._parts["shared"]

    @property
    def holds(self):
        """The kinds whose walks hold their thing, in the sequence of the kinds."""
        return self._parts["holds"]

    @property
    def batch(self):
        """How many charges a take brings at once."""
        return self._parts["batch"]

    @property
    def settles(self):
        """Whether any hand may settle the stock of a struck group."""
        return self._parts["settles"]

    def row(self, kind):
        """The row of words of this kind."""
        check_row_kind(kind)
        return self._parts[kind]

    def with_row(self, kind, row):
        """The book that has this row for the kind instead."""
        check_row_kind(kind)
        parts = {**self._parts, kind: row}
        return Book(**parts)

    def with_holds(self, holds):
        """The book that has these holds instead."""
        parts = {**self._parts, "holds": holds}
        return Book(**parts)

    def is_as_strict(self, other):
        """Whether this book differs from the other one at most in that it has further holds."""
        has_all = all([kind in self.holds for kind in other.holds])
        return has_all and self.with_holds(other.holds) == other
