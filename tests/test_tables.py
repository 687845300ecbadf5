"""Tables: their states, sums and wishes, and the numbers that show that a wish is kept."""

import inspect
import itertools
import random
import unittest
from unittest import mock

from books import books_with_each_row, kept_books, small_book
from chargeways import tables
from chargeways.books import Book
from chargeways.errors import InvalidWish, TooMany
from chargeways.states import START, deeds, due_at, is_rest, nexts
from chargeways.tables import are_numbers, excess, fewest, keeps, numbers, sums, table
from common import Checks
from plaintables import PlainTable, plain_are_numbers

NAMES = {"table": ["book"], "sums": ["book"], "keeps": ["book", "wish"], "excess": ["book", "wish"],
         "numbers": ["book", "wish"], "are_numbers": ["book", "wish", "value"], "fewest": ["book", "wish"]}

NO_SUM_WISHES = ["free", "gone", "", "Once", "once ", "kept\n", None, True, False, 0, 1, b"once", [], ["once"],
                 ("kept",), {}, {"once": 1}, {"once"}, object(), len]

WISHES = ("once", "kept")

LOOSE = Book(move=(), holds=())

# a lift takes off each time, and the thing stays where it is
ENDLESS = Book(move=(), lift=("off",), holds=())

# nearly 4000 states, and a few more than these
LARGE = Book(take=("live", "add"), give=("home", "end"), move=("home", "add", "look", "set"), lift=("set",), holds=())
HUGE = LARGE.with_row("take", ("look", "live", "add"))

NO_NUMBERS = [None, True, False, 0, 1, "", "numbers", b"", {}, {START: 0}, set(), {(START, 0)}, object(), len, iter([]),
              [], (), [None], [()], [START], [(START,)], [(0, START)], [[START, 0]], [(START, 0, 0)], [(START, None)],
              [(START, True)], [(START, False)], [(START, "0")], [(START, (0,))], [(list(START), 0)], [(START[:7], 0)],
              [((False, *START[1:]), 0)], [{START: 0}], ["START"], [(None, 0)], [(START, 0), None]]


class TestInterface(Checks):

    def test_functions_and_their_parameters(self):
        for name, names in NAMES.items():
            found = getattr(tables, name)
            self.assertEqual(found.__module__, "chargeways.tables")
            self.assertEqual(list(inspect.signature(found).parameters), names)

    def test_example(self):
        self.assert_same([keeps(LOOSE, "once"), keeps(LOOSE, "kept"), excess(LOOSE, "kept"), keeps(Book(), "kept"),
                          fewest(Book(), "kept")], [True, False, 1, True, None])

    def test_by_name(self):
        told = numbers(wish="kept", book=Book())
        self.assertEqual(told, numbers(Book(), "kept"))
        self.assertEqual(table(book=LOOSE), table(LOOSE))
        self.assertEqual(sums(book=LOOSE), sums(LOOSE))
        self.assert_same([keeps(wish="kept", book=LOOSE), excess(wish="kept", book=LOOSE),
                          fewest(wish="kept", book=LOOSE), are_numbers(value=told, wish="kept", book=Book())],
                         [False, 1, fewest(LOOSE, "kept"), True])

    def test_no_wishes(self):
        for book in (Book(), HUGE):
            for value in NO_SUM_WISHES:
                for call in (keeps, excess, numbers, fewest):
                    self.assert_raises(InvalidWish, {"value": value}, call, book, value)
                self.assert_raises(InvalidWish, {"value": value}, are_numbers, book, value, [])

    def test_lists_and_dicts_are_new(self):
        for call in (table, sums, lambda book: numbers(book, "once")):
            first = call(Book())
            wanted = repr(first)
            first.clear()
            self.assertEqual(repr(call(Book())), wanted)


class TestTables(Checks):

    def test_of_the_book_without_arguments(self):
        found = table(Book())
        self.assert_same(len(found), 103)
        self.assertEqual(found, sorted(found))
        self.assertIn(START, found)
        self.assertTrue(all(after in found for state in found for after in nexts(Book(), state)))

    def test_a_small_one_in_words(self):
        book = Book(take=("live", "add"), give=("end",), move=(), lift=())
        lives = {(side, home) for side, home in ((0, 3), (1, 1), (1, 2))}
        wanted = []
        for struck in (0, 1):
            wanted.append((struck, 0, 0, (), (), (), (), ()))
            wanted += [(struck, 0, 0, (0, side), (), (), (), ()) for side in (0, 1)]
            for side, home in lives:
                wanted.append((struck, 1, home, (1, side), (), (), (), ()))
                wanted += [(struck, life, home, (), (), (), (), ()) for life in (1, 3)]
                wanted.append((struck, 1, home, (), (0, -1), (), (), ()))
        self.assert_same(table(book), sorted(wanted))

    def test_sums_of_a_small_one_in_words(self):
        book = Book(take=("live", "add"), give=("end",), move=(), lift=())
        for (_, life, home, take, _, _, _, _), ends in sums(book).items():
            side = 1 if home in (1, 2) and take == () else 0
            self.assert_same(ends, (side, side) if life > 0 else (0, 0))
        self.assert_same([excess(book, "once"), excess(book, "kept"), keeps(book, "once"), fewest(book, "once")],
                         [1, 0, False, 5])

    def test_each_row_against_a_plain_closure(self):
        endless = 0
        for book in books_with_each_row(1):
            endless += self.assert_plain(book)
        self.assertGreater(endless, 20)

    def test_books_that_keep_wishes_against_a_plain_closure(self):
        for book in kept_books(2, 40):
            self.assertEqual(self.assert_plain(book), 0)
        for book in kept_books(3, 6, batch=1, holds=["give", "move", "lift"]):
            self.assertEqual(self.assert_plain(book), 0)

    def assert_plain(self, book):
        """All that is told of the table is as a plain closure tells it; how many excesses have no end."""
        plain = PlainTable(book)
        ends = plain.ends()
        self.assertEqual(repr(table(book)), repr(plain.states), book)
        self.assertEqual(repr(sums(book)), repr({state: ends[state] for state in plain.states}), book)
        endless = 0
        for wish in WISHES:
            told = [keeps(book, wish), excess(book, wish), fewest(book, wish)]
            self.assertEqual(repr(told), repr([plain.keeps(wish), plain.excess(wish), plain.fewest(wish)]), book)
            self.assertEqual(told[0], told[1] == 0)
            self.assertEqual(told[0], told[2] is None)
            endless += told[1] is None
        return endless

    def test_sums_without_end(self):
        found = sums(ENDLESS)
        self.assert_same(found[(1, 1, 2, (), (), (), (), ())], (None, 1))
        self.assert_same(found[(1, 1, 3, (), (), (), (), ())], (0, 0))
        self.assert_same(found[START], (0, 0))
        self.assert_same([excess(ENDLESS, "kept"), excess(ENDLESS, "once"), keeps(ENDLESS, "kept")], [None, 0, False])
        leaving = Book(take=("try", "live"), fails="leave", holds=(), lift=(), give=("end",),
                       move=("home", "try", "set", "off"))
        found = sums(leaving)
        self.assertIsNone(found[(0, 1, 3, (), (), (), (), ())][1])
        self.assert_same([excess(leaving, "once"), keeps(leaving, "once")], [None, False])

    def test_keys_are_sorted(self):
        for book in (Book(), LOOSE, ENDLESS, Book(batch=3, fails="leave")):
            self.assertEqual(list(sums(book)), table(book))

    def test_too_many_states(self):
        self.assert_same([len(table(LARGE)), len(sums(LARGE)), len(PlainTable(HUGE).states)], [3996, 3996, 4002])
        self.assert_same([keeps(LARGE, "kept"), excess(LARGE, "kept"), excess(LARGE, "once")], [True, 0, None])
        for call in (table, sums):
            self.assert_raises(TooMany, {"what": "states", "limit": 4000}, call, HUGE)
        for wish in WISHES:
            for call in (keeps, excess, numbers, fewest):
                self.assert_raises(TooMany, {"what": "states", "limit": 4000}, call, HUGE, wish)
            self.assert_same([are_numbers(HUGE, wish, []), are_numbers(HUGE, wish, [(START, 0)])], [False, False])

    def test_just_as_many_states_as_may_be(self):
        for limit in (101, 102):
            with mock.patch("chargeways.charts.MOST_STATES", limit):
                self.assert_raises(TooMany, {"what": "states", "limit": limit}, table, Book())
        for limit in (103, 104):
            with mock.patch("chargeways.charts.MOST_STATES", limit):
                self.assertEqual(len(table(Book())), 103)

    def test_fewest_in_words(self):
        # the take: begin, try, live; the strike; begin the give and the lift, home, both, off, end
        self.assert_same(fewest(LOOSE, "kept"), 10)
        # begin, try and the test that fails above
        self.assert_same(fewest(Book(fails="leave"), "once"), 3)
        self.assert_same([fewest(Book(move=("set",)), wish) for wish in WISHES], [5, 5])
        # strike, begin, try, live, begin the lift, off; its home is still due
        self.assert_same(fewest(ENDLESS, "kept"), 6)


class TestNumbers(Checks):

    def test_told_exactly_if_the_wish_is_kept(self):
        draw = random.Random(4)
        books = kept_books(5, 25) + [small_book(draw, 400, {}) for _ in range(40)] + [LOOSE, ENDLESS, Book()]
        told = 0
        for book in books:
            for wish in WISHES:
                found = numbers(book, wish)
                self.assertEqual(found is None, not keeps(book, wish))
                if found is not None:
                    told += 1
                    self.assertIsInstance(found, list)
                    self.assertTrue(plain_are_numbers(book, wish, found))
                    self.assertIs(are_numbers(book, wish, found), True)
                    self.assertIs(are_numbers(book, wish, tuple(found)), True)
                    self.assertIs(are_numbers(book, wish, found[::-1]), True)
        self.assertGreater(told, 60)

    def test_none_are_numbers_where_the_wish_is_not_kept(self):
        for wish, other in (WISHES, WISHES[::-1]):
            book = {"once": Book(move=("set",), give=("end",)), "kept": LOOSE}[wish]
            for entries in ([(state, ends[0] or 0) for state, ends in sums(book).items()],
                            [(state, ends[1] or 0) for state, ends in sums(book).items()],
                            [(state, 0) for state in table(book)], numbers(Book(), wish)):
                self.assertIs(are_numbers(book, wish, entries), False)

    def test_the_two_wishes_ask_the_other_way_round(self):
        # a book whose states at rest may have less, but not more
        found = numbers(LOOSE, "once")
        self.assertIs(are_numbers(LOOSE, "once", found), True)
        self.assertIs(are_numbers(LOOSE, "kept", found), False)

    def test_other_numbers_may_do(self):
        book = Book()
        for wish, sign in (("once", 1), ("kept", -1)):
            found = numbers(book, wish)
            self.assertEqual(dict(found)[START], 0)
            for number in (-1, 1, 2, 10 ** 39):
                moved = [(state, told + sign * number) for state, told in found]
                self.assertIs(are_numbers(book, wish, moved), plain_are_numbers(book, wish, moved))
                freer = [(state, told + sign * number if state[1] == 3 and state[4] != () else told)
                         for state, told in found]
                self.assertIs(are_numbers(book, wish, freer), plain_are_numbers(book, wish, freer))

    def test_states_that_are_not_in_the_table(self):
        book = Book()
        extra, wanted = (0, 3, 1, (), (), (), (), (1,)), {True: 0, False: 0}
        self.assertNotIn(extra, table(book))
        for wish, number in itertools.product(WISHES, (-3, -1, 0, 1, 3)):
            told = {**dict(numbers(book, wish)), extra: number}
            self.assertIs(are_numbers(book, wish, list(told.items())), False)
            to_do = [extra]
            while to_do:
                state = to_do.pop()
                for _, weight, after in deeds(book, state):
                    if after not in told:
                        told[after] = told[state] + weight
                        to_do.append(after)
            found = plain_are_numbers(book, wish, list(told.items()))
            self.assertIs(are_numbers(book, wish, list(told.items())), found)
            wanted[found] += 1
        self.assertGreater(min(wanted.values()), 2)

    def test_one_thing_spoilt(self):
        draw = random.Random(6)
        seen = {True: 0, False: 0}
        for book in kept_books(7, 12):
            for wish in WISHES:
                found = numbers(book, wish)
                for _ in range(14):
                    spoilt = spoil(draw, found)
                    wanted = plain_are_numbers(book, wish, spoilt)
                    self.assertIs(are_numbers(book, wish, spoilt), wanted)
                    seen[wanted] += 1
        self.assertGreater(seen[False], 150)
        self.assertGreater(seen[True], 10)

    def test_each_state_left_out(self):
        for wish in WISHES:
            found = numbers(Book(), wish)
            for at, (state, _) in enumerate(found):
                # one to which no deed leads but from itself could be left out; there is none
                self.assertIs(are_numbers(Book(), wish, found[:at] + found[at + 1:]), False, state)

    def test_each_number_one_less_or_more(self):
        for book in (Book(), Book(batch=2, move=())):
            for wish in WISHES:
                found = numbers(book, wish)
                for at, (state, number) in enumerate(found):
                    for other in (number - 1, number + 1):
                        spoilt = found[:at] + [(state, other)] + found[at + 1:]
                        self.assertIs(are_numbers(book, wish, spoilt), plain_are_numbers(book, wish, spoilt))

    def test_wrong_kinds(self):
        for wish in WISHES:
            found = numbers(Book(), wish)
            for value in NO_NUMBERS:
                self.assertIs(are_numbers(Book(), wish, value), False, value)
            for at in (0, 1, len(found) // 2, len(found) - 1):
                state, number = found[at]
                for other in ([state, number], (list(state), number), (state, bool(number)), (state, str(number)),
                              (state, (number,)), (state, None), (state,), (state, number, 0), (number, state), None,
                              state, ((bool(state[0]), *state[1:]), number), {state: number}, [], ()):
                    self.assertIs(are_numbers(Book(), wish, found[:at] + [other] + found[at + 1:]), False, other)
                self.assertIs(are_numbers(Book(), wish, found + [found[at]]), False)
                self.assertIs(are_numbers(Book(), wish, found + [(state, number + 1)]), False)
            self.assertIs(are_numbers(Book(), wish, dict(found)), False)
            self.assertIs(are_numbers(Book(), wish, iter(found)), False)
            self.assertIs(are_numbers(Book(), wish, set(found)), False)

    def test_values_stay_as_they_were(self):
        found = numbers(Book(), "once")
        kept = repr(found)
        are_numbers(Book(), "once", found)
        self.assertEqual(repr(found), kept)

    def test_of_books_with_too_many_states(self):
        """Numbers are judged without the table."""
        self.assert_raises(TooMany, {"what": "states", "limit": 4000}, numbers, HUGE, "kept")
        ends = PlainTable(HUGE).ends()
        least = [(state, ends[state][0]) for state in ends]
        self.assertEqual(len(least), 4002)
        self.assertIs(are_numbers(HUGE, "kept", least), True)
        self.assertIs(are_numbers(HUGE, "once", least), False)
        self.assertIs(are_numbers(HUGE, "kept", least[:-1]), False)

    def test_due_and_rest_are_those_of_the_states(self):
        for state, number in numbers(Book(), "once"):
            if is_rest(Book(), state):
                self.assertLessEqual(number, due_at(Book(), state))


def spoil(draw, found):
    """The list with one thing changed that keeps its form."""
    at = draw.randrange(len(found))
    state, number = found[at]
    way = draw.randrange(4)
    if way == 0:
        return found[:at] + found[at + 1:]
    if way == 1:
        return found + [(state, number)]
    if way == 2:
        other = draw.choice(found)[1]
        return found[:at] + [(state, other)] + found[at + 1:]
    return found[:at] + [(state, number + draw.choice([-1, 1]))] + found[at + 1:]


if __name__ == "__main__":
    unittest.main()
