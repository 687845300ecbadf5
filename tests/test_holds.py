"""Holds that are enough, the least of them, and books that are alike, against all sixteen sets of holds."""

import inspect
import itertools
import random
import unittest

from books import kept_books, small_book
from chargeways import holds
from chargeways.books import Book
from chargeways.errors import InvalidHolds, InvalidWishes, TooMany
from chargeways.holds import are_alike, is_enough, least_holds
from common import FAILS, KINDS, Checks
from plaintables import PlainTable, plain_due, plain_form, plain_rest
from test_tables import HUGE, LOOSE

NAMES = {"is_enough": ["book", "holds", "wishes"], "least_holds": ["book", "wishes"], "are_alike": ["one", "other"]}

WISHES = ("once", "kept", "free", "gone")

ALL_HOLDS = [found for size in range(5) for found in itertools.combinations(KINDS, size)]

NO_WISHES = [None, True, False, 0, 1, "", "once", b"once", {}, {"once": 1}, {"once"}, set(), object(), len, iter([]),
             ["once", "once"], ["gone", "kept", "gone"], ["Once"], ["once "], [""], [None], [0], [True], [("once",)],
             [["once"]], ["once", None], ["take"], ("once", "once"), ("on", "ce"), [b"once"], ["free", "held"]]

NO_HOLDS = [None, True, False, 0, "", "take", b"take", {}, {"take": 1}, {"take"}, object(), len, iter([]),
            ["take", "take"], ["settle"], ["Take"], [None], [0], [True], [["take"]], [("take",)], ["give", "once"]]

LATE = Book(take=("add", "look", "live"), fails="wait", move=())


class Plain:
    """What the plain rules tell of a book: the wishes that it keeps, and the sums and numbers that make it alike."""

    def __init__(self, book):
        table = PlainTable(book)
        ends = table.ends()
        passed = {"once": [ends[state][1] is None or ends[state][1] > plain_due(state) for state in ends
                           if plain_rest(state)],
                  "kept": [ends[state][0] is None or ends[state][0] < plain_due(state) for state in ends
                           if plain_rest(state)]}
        self.kept = [wish for wish in ("once", "kept") if not any(passed[wish])]
        if len(self.kept) == 2:
            self.kept += [wish for wish in ("free", "gone") if table.unsure(wish) == []]
        places = {}
        for state in ends:
            if plain_rest(state):
                places.setdefault(state[1:3], []).append(ends[state])
        self.sums = {place: (self.end(min, [least for least, _ in told]), self.end(max, [most for _, most in told]))
                     for place, told in places.items()}
        self.form = plain_form(book)

    def end(self, choose, numbers):
        return None if None in numbers else choose(numbers)

    def is_alike(self, other):
        return (self.kept, self.sums, self.form) == (other.kept, other.sums, other.form)


def books_for_holds():
    return [Book(), Book(move=()), LATE, Book(move=(), take=("live", "add")), Book(fails="wait"), Book(lift=()),
            Book(lift=("set", "off"), move=()), Book(give=("home", "end", "off"), move=(), batch=2, settles=False),
            Book(give=("home", "off", "end"), move=(), lift=("off", "set"), fails="leave"), Book(shared=False),
            *kept_books(41, 3, move=())]


class TestInterface(Checks):

    def test_functions_and_their_parameters(self):
        for name, names in NAMES.items():
            found = getattr(holds, name)
            self.assertEqual(found.__module__, "chargeways.holds")
            self.assertEqual(list(inspect.signature(found).parameters), names)

    def test_example(self):
        self.assert_same(least_holds(Book(move=()), ["once", "kept"]), [("give", "lift")])

    def test_by_name(self):
        book = Book(move=())
        self.assert_same(is_enough(wishes=["kept"], holds=["give", "lift"], book=book), True)
        self.assert_same(least_holds(wishes=["kept"], book=book), [("give", "lift")])
        self.assert_same([are_alike(other=book, one=Book()), are_alike(other=LOOSE, one=Book())], [True, False])

    def test_no_wishes(self):
        for book in (Book(), LOOSE, HUGE):
            for value in NO_WISHES:
                self.assert_raises(InvalidWishes, {"value": value}, is_enough, book, [], value)
                self.assert_raises(InvalidWishes, {"value": value}, least_holds, book, value)

    def test_no_holds(self):
        for value in NO_HOLDS:
            for wishes in ([], ["once"], None):
                self.assert_raises(InvalidHolds, {"value": value}, is_enough, HUGE, value, wishes)

    def test_too_many_states(self):
        for wish in WISHES:
            self.assert_raises(TooMany, {"what": "states", "limit": 4000}, is_enough, HUGE.with_holds(KINDS), (), [wish])
            self.assert_raises(TooMany, {"what": "states", "limit": 4000}, least_holds, HUGE.with_holds(KINDS), [wish])
        for one, other in ((HUGE, HUGE), (HUGE, Book()), (Book(), HUGE)):
            self.assert_raises(TooMany, {"what": "states", "limit": 4000}, are_alike, one, other)

    def test_values_stay_as_they_were(self):
        wishes, told = ["gone", "once"], ["lift", "give"]
        is_enough(Book(move=()), told, wishes)
        least_holds(Book(move=()), wishes).clear()
        self.assert_same([wishes, told, least_holds(Book(move=()), wishes)],
                         [["gone", "once"], ["lift", "give"], [("give", "lift")]])


class TestEnough(Checks):

    def test_all_sets_of_holds_and_of_wishes(self):
        for book in books_for_holds():
            kept = {found: Plain(book.with_holds(found)).kept for found in ALL_HOLDS}
            wishes = [found for size in range(5) for found in itertools.combinations(WISHES, size)]
            for wanted in wishes[::3] + [("gone", "once")]:
                enough = [found for found in ALL_HOLDS if all(wish in kept[found] for wish in wanted)]
                least = [found for found in enough if not any(set(other) < set(found) for other in enough)]
                self.assert_same(least_holds(book, wanted), sorted(least))
                self.assert_same(least_holds(book, list(wanted[::-1])), sorted(least))
                for found in ALL_HOLDS[::5]:
                    self.assert_same(is_enough(book, found, list(wanted)), found in enough)
                    self.assert_same(is_enough(book, list(found[::-1]), wanted[::-1]), found in enough)

    def test_each_set_of_one_book(self):
        book = Book(move=())
        for found in ALL_HOLDS:
            kept = Plain(book.with_holds(found)).kept
            for wish in WISHES:
                self.assert_same(is_enough(book, found, [wish]), wish in kept)

    def test_the_holds_of_the_book_itself_do_not_count(self):
        for found in ALL_HOLDS:
            book = Book(move=(), holds=found)
            self.assert_same([is_enough(book, (), ["kept"]), is_enough(book, ["lift", "give"], ["kept"]),
                              least_holds(book, ["kept"])], [False, True, [("give", "lift")]])

    def test_no_wish_at_all(self):
        for book in (Book(), LOOSE):
            self.assert_same([is_enough(book, [], []), is_enough(book, KINDS, ()), least_holds(book, [])],
                             [True, True, [()]])

    def test_none_is_enough(self):
        book = Book(give=("end",))
        self.assert_same([least_holds(book, ["once"]), least_holds(book, ["free"]), is_enough(book, KINDS, ["gone"])],
                         [[], [], False])

    def test_free_and_gone_only_with_the_other_two(self):
        book = Book(move=())
        self.assert_same([is_enough(book, (), ["free"]), is_enough(book, (), ["gone"]), is_enough(book, (), ["once"])],
                         [False, False, True])
        self.assert_same([least_holds(book, [wish]) for wish in WISHES], [[()], [("give", "lift")], [("give", "lift")],
                                                                          [("give", "lift")]])


class TestAlike(Checks):

    def test_books_that_differ_in_one_part(self):
        alike = {True: 0, False: 0}
        for first in (Book(), Book(batch=2, move=()), LATE, Book(give=("end",), move=())):
            told = Plain(first)
            for second in self.changed(first):
                wanted = told.is_alike(Plain(second))
                self.assert_same([are_alike(first, second), are_alike(second, first)], [wanted, wanted])
                alike[wanted] += 1
            self.assert_same(are_alike(first, first), True)
        self.assertGreater(min(alike.values()), 15)

    def changed(self, book):
        """Books that differ from it in one part."""
        parts = {"take": book.row("take"), "give": book.row("give"), "move": book.row("move"), "lift": book.row("lift"),
                 "fails": book.fails, "shared": book.shared, "holds": book.holds, "batch": book.batch,
                 "settles": book.settles}
        others = {"take": [("try", "live"), ("look", "add", "live"), ("add", "live")],
                  "give": [("home", "end", "off"), ("end", "home", "off"), ("end",), ("home", "end")],
                  "move": [(), ("home", "look", "add", "set", "off"), ("home", "try", "off", "set")],
                  "lift": [(), ("set", "off"), ("off",)], "fails": FAILS, "shared": [True, False],
                  "holds": [("give", "move", "lift"), ("give", "lift"), ()], "batch": [1, 2, 3],
                  "settles": [True, False]}
        return [Book(**{**parts, name: value}) for name, values in others.items() for value in values]

    def test_drawn_books(self):
        draw = random.Random(42)
        books = [small_book(draw, 250, {"lift": lift}) for lift in [(), ("off",), ("both",)] for _ in range(4)]
        books += kept_books(43, 8)
        told = [(book, Plain(book)) for book in books]
        for (one, first), (other, second) in itertools.combinations(told, 2):
            self.assert_same(are_alike(one, other), first.is_alike(second))

    def test_in_words(self):
        self.assert_same([are_alike(Book(), Book(shared=False)), are_alike(Book(), Book(settles=False)),
                          are_alike(Book(batch=2), Book(batch=3)), are_alike(Book(batch=2), Book(batch=2, settles=False)),
                          are_alike(Book(), Book(fails="wait")), are_alike(Book(), Book(lift=("set", "off")))],
                         [True, True, True, False, False, True])
        # alike but for what passes a limit
        early = Book(take=("look", "add", "live"))
        self.assert_same([are_alike(Book(), early), are_alike(early, Book(take=("look", "add", "live"), fails="leave")),
                          are_alike(early, early.with_holds(["lift", "move", "give"]))], [False, False, True])
        # both without an end, by lifts that take off each time
        endless = Book(move=(), lift=("off",), holds=())
        self.assert_same([are_alike(endless, Book(move=(), lift=("off",))), are_alike(endless, Book(move=(), lift=()))],
                         [Plain(endless).is_alike(Plain(Book(move=(), lift=("off",)))), False])


if __name__ == "__main__":
    unittest.main()
