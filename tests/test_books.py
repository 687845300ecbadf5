"""Books: every row that may stand and every one that may not, the other parts, and every error."""

import inspect
import itertools
import unittest

from chargeways import books
from chargeways.books import Book
from chargeways.errors import InvalidCount, InvalidHolds, InvalidKind, InvalidRow, InvalidWord
from chargeways.trees import Tree
from common import Checks

WORDS = ("look", "add", "try", "off", "live", "home", "set", "end", "both")
KINDS = ("take", "give", "move", "lift")
NAMES = ["take", "give", "move", "lift", "fails", "shared", "holds", "batch", "settles"]

TAKES = [("try", "live"), ("add", "live"), ("live", "add"),
         ("look", "add", "live"), ("add", "look", "live"), ("look", "live", "add")]
GIVES = [("end",), ("home", "end"), ("end", "home"),
         ("home", "off", "end"), ("home", "end", "off"), ("end", "home", "off")]
LIFTS = [(), ("set",), ("off",), ("set", "off"), ("off", "set"), ("both",)]

NO_WORDS = [None, True, False, 0, 1, "", "x", b"undo", [], ["undo"], ("undo",), {}, {"undo"}, object(), str]

NO_ROWS = [None, True, False, 0, 1, "", "try", "set", b"", [], ["try", "live"], ["end"], ["set"], ["both"], {},
           {"set": 1}, {"set"}, object(), tuple, (None,), (True,), (1,), ("",), ("Set",), ("set ",), (("set",),),
           (["set"],), ({},), ({"set"},), (b"set",), ("x",), ("settle",), ("wait",), ("undo",), ("look", None)]

# of each part, values that it may have besides the default one
OTHERS = {"take": [("add", "live"), ("live", "add")], "give": [("end",), ("end", "home", "off")],
          "move": [(), ("set",), ("home", "set")], "lift": [(), ("set", "off")], "fails": ["leave", "wait"],
          "shared": [False], "holds": [(), ("take",), ("give", "lift")], "batch": [2, 50], "settles": [False]}

# what is raised for an invalid value of each part
RAISED = {name: (InvalidRow, {"kind": name}) for name in KINDS}
RAISED.update({name: (InvalidWord, {"name": name}) for name in ("fails", "shared", "settles")})
RAISED.update({"holds": (InvalidHolds, {}), "batch": (InvalidCount, {})})


def lined_up(words, most):
    """All tuples of at most so many of the words, each at most once."""
    for size in range(most + 1):
        yield from itertools.permutations(words, size)


def is_ahead(row, first, second):
    return row.index(first) < row.index(second)


def may_move(row):
    """The words of the document on a move, for rows of different words."""
    if not row:
        return True
    if "set" not in row or set(row) & {"live", "end", "both"}:
        return False
    if "try" in row and ("add" in row or "look" in row):
        return False
    if "off" in row and ("home" not in row or not is_ahead(row, "home", "off")):
        return False
    return all(is_ahead(row, test, word) for test in ("look", "try") if test in row
               for word in ("set", "off") if word in row)


MOVES = [row for row in lined_up(("look", "add", "try", "off", "home", "set"), 6) if may_move(row)]


def parts_of(book):
    """The parts by name, as the interface shows them."""
    parts = {kind: book.row(kind) for kind in KINDS}
    parts.update(fails=book.fails, shared=book.shared, holds=book.holds, batch=book.batch, settles=book.settles)
    return {name: parts[name] for name in NAMES}


class TestBook(Checks):

    def assert_row(self, kind, row, wanted, **parts):
        """The row may stand beside the parts exactly if this is wanted."""
        if wanted:
            self.assertEqual(Book(**{kind: row}, **parts).row(kind), row)
        else:
            self.assert_raises(InvalidRow, {"kind": kind, "value": row}, Book, **{kind: row}, **parts)


class TestInterface(TestBook):

    def test_class_and_methods_stand_in_their_file(self):
        self.assertEqual(Book.__module__, "chargeways.books")
        self.assertIs(books.Book, Book)
        for name in ("__init__", "__eq__", "__repr__", "fails", "shared", "holds", "batch", "settles", "row",
                     "with_row", "with_holds", "is_as_strict", "KINDS"):
            self.assertIn(name, vars(Book))

    def test_kinds(self):
        self.assertEqual(Book.KINDS, ("take", "give", "move", "lift", "settle"))
        self.assertIs(type(Book.KINDS), tuple)
        self.assertEqual(Book().KINDS, Book.KINDS)

    def test_parameters_are_passed_by_name_alone(self):
        found = inspect.signature(Book).parameters
        self.assertEqual(list(found), NAMES)
        self.assertEqual({one.kind for one in found.values()}, {inspect.Parameter.KEYWORD_ONLY})
        with self.assertRaises(TypeError):
            Book(("try", "live"))

    def test_names_of_the_parameters_of_methods(self):
        for name, names in (("row", ["kind"]), ("with_row", ["kind", "row"]), ("with_holds", ["holds"]),
                            ("is_as_strict", ["other"])):
            self.assertEqual(list(inspect.signature(getattr(Book(), name)).parameters), names)
        self.assertEqual(Book().row(kind="lift"), ("both",))
        self.assertEqual(Book().with_row(row=(), kind="lift"), Book(lift=()))
        self.assertEqual(Book().with_holds(holds=[]), Book(holds=[]))
        self.assertIs(Book().is_as_strict(other=Book()), True)

    def test_defaults(self):
        self.assertEqual(parts_of(Book()), {
            "take": ("try", "live"), "give": ("home", "off", "end"), "move": ("home", "try", "set", "off"),
            "lift": ("both",), "fails": "undo", "shared": True, "holds": KINDS, "batch": 1, "settles": True})

    def test_each_part_by_itself(self):
        for name, values in OTHERS.items():
            for value in values:
                parts = parts_of(Book())
                parts[name] = value
                found = parts_of(Book(**{name: value}))
                self.assertEqual(found, parts)
                self.assertEqual([type(one) for one in found.values()], [type(one) for one in parts.values()])


class TestRows(TestBook):

    def test_takes(self):
        for row in lined_up(WORDS, 4):
            self.assert_row("take", row, row in TAKES)

    def test_takes_with_a_batch(self):
        for batch in (2, 50):
            for row in lined_up(("live", "try", "add", "look"), 4):
                self.assert_row("take", row, row in TAKES and row[-1] == "live", batch=batch)
        for row in TAKES:
            self.assert_row("take", row, True, batch=1)

    def test_gives(self):
        for row in lined_up(WORDS, 4):
            self.assert_row("give", row, row in GIVES)
            if row in GIVES:
                self.assert_row("give", row, True, batch=3, shared=False)

    def test_moves(self):
        for row in lined_up(WORDS, 4):
            self.assert_row("move", row, may_move(row))
        for row in lined_up(("look", "add", "try", "off", "home", "set"), 6):
            self.assert_row("move", row, may_move(row))

    def test_moves_that_are_written_out(self):
        for row in ((), ("set",), ("set", "home"), ("home", "set", "off"), ("home", "off", "set"), ("set", "add"),
                    ("add", "set"), ("look", "set"), ("look", "set", "add"), ("add", "look", "set"), ("try", "set"),
                    ("set", "home", "off"), ("try", "home", "off", "set"), ("look", "home", "off", "add", "set"),
                    ("home", "look", "add", "set", "off"), ("set", "add", "home", "off"), ("try", "set", "home"),
                    ("home", "set", "off", "add")):
            self.assertIn(row, MOVES)
            self.assert_row("move", row, True)
        for row in (("home",), ("try",), ("off",), ("home", "off"), ("off", "set"), ("off", "home", "set"),
                    ("set", "off"), ("set", "off", "home"), ("set", "look"), ("set", "try"), ("try", "add", "set"),
                    ("try", "look", "set"), ("look", "add", "try", "set"), ("home", "off", "look", "set"),
                    ("home", "off", "try", "set"), ("home", "set", "look", "off"), ("set", "end"), ("live", "set"),
                    ("both",), ("set", "both"), ("home", "set", "add", "try", "off")):
            self.assertNotIn(row, MOVES)
            self.assert_row("move", row, False)

    def test_moves_that_share_nothing(self):
        for row in lined_up(("look", "add", "try", "off", "home", "set"), 6):
            self.assert_row("move", row, may_move(row) and row[:1] in ((), ("home",)), shared=False)

    def test_lifts(self):
        for row in lined_up(WORDS, 4):
            self.assert_row("lift", row, row in LIFTS)
            if row in LIFTS:
                self.assert_row("lift", row, True, batch=3, shared=False)

    def test_a_word_twice(self):
        for row in (("try", "try", "live"), ("try", "live", "live"), ("add", "live", "add"),
                    ("look", "look", "add", "live"), ("add", "look", "look", "live")):
            self.assert_row("take", row, False)
        for row in (("end", "end"), ("home", "home", "end"), ("home", "off", "home", "end"),
                    ("home", "off", "off", "end"), ("end", "home", "off", "end")):
            self.assert_row("give", row, False)
        for row in (("set", "set"), ("home", "home", "set"), ("home", "set", "home"), ("home", "set", "off", "off"),
                    ("add", "set", "add"), ("try", "try", "set"), ("look", "look", "set")):
            self.assert_row("move", row, False)
        for row in (("set", "set"), ("off", "off"), ("both", "both"), ("set", "off", "set"), ("off", "set", "off")):
            self.assert_row("lift", row, False)

    def test_values_that_are_no_row(self):
        for kind in KINDS:
            for value in NO_ROWS:
                self.assert_row(kind, value, False)
        for kind, row in (("take", ("try", "live", None)), ("give", ("end", True)), ("move", ("set", 1)),
                          ("move", ("home", "set", ["off"])), ("lift", ("both", None)), ("lift", ["set", "off"]),
                          ("take", ["add", "live"]), ("give", ["home", "off", "end"]), ("move", [])):
            self.assert_row(kind, row, False)

    def test_rows_of_another_kind(self):
        rows = {"take": TAKES, "give": GIVES, "move": MOVES, "lift": LIFTS}
        for kind, other in itertools.permutations(KINDS, 2):
            for row in rows[other]:
                self.assert_row(kind, row, row in rows[kind])

    def test_how_many_rows_there_are(self):
        many = {}
        for row in lined_up(("look", "add", "try", "off", "home", "set"), 6):
            try:
                words = tuple(sorted(Book(move=row).row("move")))
            except InvalidRow:
                continue
            many[words] = many.get(words, 0) + 1
        self.assertEqual(many, {
            (): 1, ("set",): 1, ("add", "set"): 2, ("look", "set"): 1, ("set", "try"): 1, ("home", "set"): 2,
            ("add", "look", "set"): 3, ("add", "home", "set"): 6, ("home", "look", "set"): 3,
            ("home", "set", "try"): 3, ("home", "off", "set"): 3, ("add", "home", "look", "set"): 12,
            ("add", "home", "off", "set"): 12, ("home", "look", "off", "set"): 5, ("home", "off", "set", "try"): 5,
            ("add", "home", "look", "off", "set"): 25})


class TestOtherParts(TestBook):

    def test_fails(self):
        for value in ("undo", "leave", "wait"):
            self.assertEqual(Book(fails=value).fails, value)
        for value in NO_WORDS + ["UNDO", "undo ", "fail", "look"]:
            self.assert_raises(InvalidWord, {"name": "fails", "value": value}, Book, fails=value)

    def test_shared_and_settles(self):
        for name in ("shared", "settles"):
            for value in (True, False):
                self.assertIs(getattr(Book(**{name: value}), name), value)
            for value in (None, 0, 1, -1, "", "True", "shared", [], [True], (), (False,), {}, object(), bool):
                self.assert_raises(InvalidWord, {"name": name, "value": value}, Book, **{name: value})

    def test_holds_in_any_sequence(self):
        for holds in lined_up(KINDS, 4):
            wanted = tuple(kind for kind in KINDS if kind in holds)
            for passed in (holds, list(holds)):
                found = Book(holds=passed).holds
                self.assertEqual(found, wanted)
                self.assertIs(type(found), tuple)

    def test_holds_that_are_none(self):
        for value in (None, True, 1, "", "take", b"", {}, {"take"}, {"take": 1}, set(), object(), list, ["settle"],
                      ["take", "settle"], ["take", "take"], ("take", "give", "take"), [None], [True], [1], ["Take"],
                      [""], [["take"]], [("take",)], [{}], [{"take"}], ("try",), [*KINDS, "settle"], [*KINDS, "take"]):
            self.assert_raises(InvalidHolds, {"value": value}, Book, holds=value)

    def test_holds_that_are_passed_are_copied(self):
        holds = ["lift", "take"]
        book = Book(holds=holds)
        self.assertEqual(holds, ["lift", "take"])
        holds[0] = "move"
        holds.append("give")
        self.assertEqual(book.holds, ("take", "lift"))
        passed = ["give"]
        other = book.with_holds(passed)
        passed.clear()
        self.assertEqual(other.holds, ("give",))

    def test_batch(self):
        for value in range(1, 51):
            self.assertEqual(Book(batch=value).batch, value)
        for value in (0, -1, 51, 100, -10 ** 30, 10 ** 30, True, False, None, "", "1", b"1", [], [1], (), (1,), {}, {1},
                      object(), int):
            self.assert_raises(InvalidCount, {"value": value}, Book, batch=value)


class TestWhichErrorComesFirst(TestBook):

    def test_in_the_sequence_of_the_parameters(self):
        for first, second in itertools.combinations(NAMES, 2):
            for value, other in (("x", "x"), (None, 0), (0, None)):
                error, values = RAISED[first]
                self.assert_raises(error, {**values, "value": value}, Book, **{second: other, first: value})

    def test_all_at_once(self):
        values = {name: 7 for name in NAMES}
        values["batch"] = 0
        for name in NAMES:
            error, told = RAISED[name]
            self.assert_raises(error, {**told, "value": values[name]}, Book, **values)
            del values[name]
        self.assertEqual(Book(**values), Book())

    def test_rows_by_themselves_come_ahead_of_what_the_batch_asks(self):
        late = {"take": ("live", "add"), "batch": 2, "move": ("set",), "shared": False}
        for name, value in (("give", ()), ("lift", None), ("fails", "x"), ("holds", None), ("settles", 1)):
            error, told = RAISED[name]
            self.assert_raises(error, {**told, "value": value}, Book, **{**late, name: value})
        self.assert_raises(InvalidRow, {"kind": "move", "value": ("off",)}, Book, **{**late, "move": ("off",)})
        self.assert_raises(InvalidWord, {"name": "shared", "value": 0}, Book, **{**late, "shared": 0})
        self.assert_raises(InvalidCount, {"value": 51}, Book, **{**late, "batch": 51})
        self.assert_raises(InvalidCount, {"value": True}, Book, **{**late, "batch": True})

    def test_take_comes_ahead_of_move(self):
        late = {"take": ("live", "add"), "batch": 2, "move": ("set",), "shared": False}
        self.assert_raises(InvalidRow, {"kind": "take", "value": ("live", "add")}, Book, **late)
        late["batch"] = 1
        self.assert_raises(InvalidRow, {"kind": "move", "value": ("set",)}, Book, **late)
        late["shared"] = True
        self.assertEqual(parts_of(Book(**late)), {**parts_of(Book()), **late})


class TestMethods(TestBook):

    def test_row(self):
        book = Book(take=("look", "live", "add"), give=("end",), move=("set", "home"), lift=())
        for kind, row in (("take", ("look", "live", "add")), ("give", ("end",)), ("move", ("set", "home")),
                          ("lift", ())):
            self.assertEqual(book.row(kind), row)
            self.assertIs(type(book.row(kind)), tuple)

    def test_values_that_are_no_kind(self):
        for value in ("settle", "Take", "takes", "", "try", None, True, 0, b"take", [], ["take"], ("take",), {},
                      {"take"}, object(), str):
            self.assert_raises(InvalidKind, {"value": value}, Book().row, value)
            self.assert_raises(InvalidKind, {"value": value}, Book().with_row, value, ("try", "live"))
            self.assert_raises(InvalidKind, {"value": value}, Book().with_row, value, None)

    def test_with_row(self):
        book = Book(fails="leave", holds=("lift",), settles=False)
        shown = repr(book)
        rows = {"take": TAKES, "give": GIVES, "move": MOVES[::9], "lift": LIFTS}
        for kind in KINDS:
            for row in rows[kind]:
                found = book.with_row(kind, row)
                self.assertIs(type(found), Book)
                self.assertEqual(parts_of(found), {**parts_of(book), kind: row})
        self.assertEqual(repr(book), shown)

    def test_with_row_raises_as_the_constructor(self):
        for kind in KINDS:
            for value in NO_ROWS:
                self.assert_raises(InvalidRow, {"kind": kind, "value": value}, Book().with_row, kind, value)
        many, apart = Book(batch=2), Book(shared=False)
        self.assert_raises(InvalidRow, {"kind": "take", "value": ("live", "add")},
                           many.with_row, "take", ("live", "add"))
        self.assert_raises(InvalidRow, {"kind": "move", "value": ("set",)}, apart.with_row, "move", ("set",))
        self.assertEqual(apart.with_row("take", ("live", "add")).row("take"), ("live", "add"))
        self.assertEqual(many.with_row("move", ("set",)).row("move"), ("set",))
        self.assertEqual((repr(many), repr(apart)), (repr(Book(batch=2)), repr(Book(shared=False))))

    def test_with_holds(self):
        book = Book(move=(), fails="wait", shared=False, batch=4, settles=False)
        shown = repr(book)
        for holds in lined_up(KINDS, 4):
            for passed in (holds, list(holds)):
                found = book.with_holds(passed)
                self.assertIs(type(found), Book)
                self.assertEqual(parts_of(found), {**parts_of(book),
                                                   "holds": tuple(kind for kind in KINDS if kind in holds)})
        for value in (None, "take", ["settle"], ["give", "give"], {"take"}, [True]):
            self.assert_raises(InvalidHolds, {"value": value}, book.with_holds, value)
        self.assertEqual(repr(book), shown)

    def test_is_as_strict_by_holds(self):
        sets = [holds for size in range(5) for holds in itertools.combinations(KINDS, size)]
        for one, other in itertools.product(sets, repeat=2):
            found = Book(holds=one).is_as_strict(Book(holds=other[::-1]))
            self.assertIs(found, set(other) <= set(one))

    def test_is_as_strict_asks_that_all_else_is_the_same(self):
        for name in NAMES:
            for value in OTHERS[name]:
                if name != "holds":
                    changed = Book(**{name: value})
                    self.assertIs(Book().is_as_strict(changed), False)
                    self.assertIs(changed.is_as_strict(Book()), False)
                    self.assertIs(Book().is_as_strict(changed.with_holds([])), False)
                    self.assertIs(changed.is_as_strict(changed), True)
                    self.assertIs(changed.is_as_strict(changed.with_holds(["move"])), True)
                    self.assertIs(changed.with_holds(["move"]).is_as_strict(changed), False)

    def test_is_as_strict_changes_nothing(self):
        one, other = Book(), Book(holds=["take"])
        one.is_as_strict(other)
        self.assertEqual((one.holds, other.holds), (KINDS, ("take",)))


class TestEqualAndShown(TestBook):

    def test_equal_books(self):
        self.assertIs(Book() == Book(), True)
        self.assertIs(Book() != Book(), False)
        self.assertIs(Book(holds=["lift", "take"]) == Book(holds=("take", "lift")), True)
        for name in NAMES:
            for value in OTHERS[name]:
                self.assertIs(Book(**{name: value}) == Book(**{name: value}), True)

    def test_books_that_differ_in_one_part(self):
        for name in NAMES:
            for value in OTHERS[name]:
                self.assertIs(Book(**{name: value}) == Book(), False)
                self.assertIs(Book() == Book(**{name: value}), False)
                self.assertIs(Book() != Book(**{name: value}), True)
            for value, other in itertools.permutations(OTHERS[name], 2):
                self.assertIs(Book(**{name: value}) == Book(**{name: other}), False)

    def test_values_of_another_kind(self):
        for value in (None, True, 1, "", repr(Book()), [], (), {}, parts_of(Book()), object(), Book, Tree()):
            self.assertIs(Book() == value, False)
            self.assertIs(value == Book(), False)
            self.assertIs(Book() != value, True)

    def test_repr(self):
        self.assertEqual(repr(Book()), (
            "Book(take=('try', 'live'), give=('home', 'off', 'end'), move=('home', 'try', 'set', 'off'), "
            "lift=('both',), fails='undo', shared=True, holds=('take', 'give', 'move', 'lift'), batch=1, "
            "settles=True)"))
        self.assertEqual(repr(Book(settles=False, batch=50, holds=["move", "give"], shared=False, fails="wait", lift=(),
                                   move=(), give=("end",), take=("look", "add", "live"))), (
            "Book(take=('look', 'add', 'live'), give=('end',), move=(), lift=(), fails='wait', shared=False, "
            "holds=('give', 'move'), batch=50, settles=False)"))

    def test_repr_of_changed_books(self):
        book = Book().with_holds([]).with_row("lift", ("set",)).with_row("take", ("live", "add"))
        self.assertEqual(repr(book), (
            "Book(take=('live', 'add'), give=('home', 'off', 'end'), move=('home', 'try', 'set', 'off'), "
            "lift=('set',), fails='undo', shared=True, holds=(), batch=1, settles=True)"))

    def test_repr_of_each_part(self):
        for name in NAMES:
            for value in OTHERS[name]:
                book = Book(**{name: value})
                self.assertEqual(eval(repr(book), {"Book": Book}), book)


if __name__ == "__main__":
    unittest.main()
