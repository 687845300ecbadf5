"""Deeds that help, ranks and traps: for "free" and "gone", against the plain rules of points 71 to 73."""

import inspect
import itertools
import random
import unittest

from books import kept_books
from chargeways import traps
from chargeways.audits import charged, sight
from chargeways.books import Book
from chargeways.errors import InvalidState, InvalidWish, NotKept, TooMany
from chargeways.runs import Run
from chargeways.states import START, is_state, nexts
from chargeways.tables import keeps, sums, table
from chargeways.traps import are_ranks, helped, is_sure, is_trap, ranks, trap
from common import FAILS, KINDS, Checks
from drawn import answer, draw_deed, units
from plainrun import Fault, PlainRun
from plaintables import PlainTable, plain_are_pairs, plain_are_ranks, plain_helped
from test_badruns import NO_LISTS_OF_DEEDS
from test_states import NO_STATES
from test_tables import HUGE, LOOSE

NAMES = {"helped": ["book", "wish", "state"], "is_sure": ["book", "wish"], "ranks": ["book", "wish"],
         "are_ranks": ["book", "wish", "value"], "trap": ["book", "wish"], "is_trap": ["book", "wish", "value"]}

WISHES = ("free", "gone")

NO_HELP_WISHES = ["once", "kept", "", "Free", "gone ", "free\n", None, True, False, 0, 1, b"free", [], ["free"],
                  ("gone",), {}, {"free": 1}, {"gone"}, object(), len]

WAITS = Book(fails="wait")

STAYS = Book(batch=4, settles=False)

LATE = Book(take=("add", "look", "live"), move=())

# neither wish is kept, "kept" alone, "once" alone
UNKEPT = [(Book(move=("set",)), "once"), (Book(take=("live", "add"), give=("end",)), "once"), (LOOSE, "kept")]

NO_RANKS = [None, True, False, 0, "", b"", {}, {START: (0, 0)}, set(), object(), len, iter([]), [], (), [None], [()],
            [START], [(START, 0)], [(START, 0, 0, 0)], [[START, 0, 0]], [(START, 0, -1)], [(START, 0, True)],
            [(START, False, 0)], [(START, None, 0)], [(START, 0, "0")], [(START, "0", 0)], [(list(START), 0, 0)],
            [(START[:7], 0, 0)], [(None, 0, 0)], [(START, 0, 0), None], [(START, 0, 0)], [(START, 0, None)]]


def state(struck=0, life=0, home=0, take=(), give=(), move=(), lift=(), settle=()):
    """A state, by the names of its parts."""
    return (struck, life, home, take, give, move, lift, settle)


def all_kept_books():
    return [Book(), WAITS, STAYS, LATE, Book(lift=()), Book(move=()), Book(batch=3), *kept_books(21, 50),
            *kept_books(22, 5, fails="wait"), *kept_books(23, 5, take=("add", "look", "live"), move=()),
            *kept_books(24, 4, settles=False, batch=2), *kept_books(25, 5, holds=["give", "move", "lift"])]


class TestInterface(Checks):

    def test_functions_and_their_parameters(self):
        for name, names in NAMES.items():
            found = getattr(traps, name)
            self.assertEqual(found.__module__, "chargeways.traps")
            self.assertEqual(list(inspect.signature(found).parameters), names)

    def test_example(self):
        self.assert_same([is_sure(Book(), "free"), is_sure(Book(fails="wait"), "free"), is_sure(Book(), "gone"),
                          is_sure(Book(lift=()), "gone")], [True, False, True, False])

    def test_by_name(self):
        book = Book()
        self.assertEqual(helped(state=START, wish="free", book=book), helped(book, "free", START))
        self.assert_same(is_sure(wish="free", book=book), True)
        told = ranks(wish="gone", book=book)
        self.assert_same(are_ranks(value=told, wish="gone", book=book), True)
        told = trap(wish="free", book=WAITS)
        self.assert_same(is_trap(value=told, wish="free", book=WAITS), True)

    def calls(self, book):
        """All functions but helped, with a wish as the one parameter that is left."""
        return [lambda wish: helped(book, wish, START), lambda wish: is_sure(book, wish), lambda wish: ranks(book, wish),
                lambda wish: are_ranks(book, wish, []), lambda wish: trap(book, wish),
                lambda wish: is_trap(book, wish, None)]

    def test_no_wishes(self):
        for book in (Book(), LOOSE, HUGE):
            for value in NO_HELP_WISHES:
                for call in self.calls(book):
                    self.assert_raises(InvalidWish, {"value": value}, call, value)
                self.assert_raises(InvalidWish, {"value": value}, helped, book, value, None)

    def test_no_states(self):
        for book in (Book(), LOOSE, HUGE):
            for value in NO_STATES:
                for wish in WISHES:
                    self.assert_raises(InvalidState, {"value": value}, helped, book, wish, value)

    def test_too_many_states(self):
        for wish in WISHES:
            for call in self.calls(HUGE):
                self.assert_raises(TooMany, {"what": "states", "limit": 4000}, call, wish)

    def test_not_kept(self):
        for book, first in UNKEPT:
            self.assertEqual([wish for wish in ("once", "kept") if not keeps(book, wish)][0], first)
            for wish in WISHES:
                for call in self.calls(book):
                    self.assert_raises(NotKept, {"wish": first}, call, wish)

    def test_lists_are_new(self):
        for call in (lambda: ranks(Book(), "free"), lambda: helped(Book(), "gone", START), lambda: trap(WAITS, "free")[0],
                     lambda: trap(WAITS, "free")[3]):
            first = call()
            wanted = list(first)
            first.clear()
            self.assertEqual(call(), wanted)


class TestHelped(Checks):

    def test_each_state_of_tables_against_plain_rules(self):
        draw = random.Random(26)
        for book in all_kept_books():
            for value in draw.sample(table(book), 14):
                for wish in WISHES:
                    self.assert_same(helped(book, wish, value), plain_helped(book, wish, value))

    def test_all_states_of_one_book_against_plain_rules(self):
        for book in (STAYS, LATE):
            for value in table(book):
                self.assert_same(helped(book, "gone", value), plain_helped(book, "gone", value))

    def test_free_in_words(self):
        for value in (START, state(0, 1, 2), state(0, 1, 3)):
            behind = [after for after in nexts(Book(), value) if after[0] == 0]
            self.assert_same(helped(Book(), "free", value), behind)
        # a move that has its test still to come may end by it alone
        self.assert_same(helped(Book(), "free", state(0, 1, 2, move=(1, 1, 1))), [state(0, 1, 2)])
        self.assert_same(helped(WAITS, "free", state(0, 1, 2, move=(1, 1, 1))), [])
        # behind the group the same test waits above it, if the way goes there
        self.assert_same(helped(WAITS, "free", state(0, 1, 2, move=(2, 1, 1))), [])
        self.assert_same(helped(WAITS, "free", state(0, 1, 2, move=(2, 1, 0))), [state(0, 1, 3, move=(3, 1, 0))])
        self.assert_same(helped(Book(fails="wait", shared=False), "free", state(0, 1, 2, move=(2, 1, 1))),
                         [state(0, 1, 1, move=(3, 1, 1)), state(0, 1, 2, move=(3, 1, 1))])

    def test_free_of_takes_in_words(self):
        book = Book(fails="wait")
        self.assert_same(helped(book, "free", state(take=(0, 1))), [state(take=(1, 1))])
        self.assert_same(helped(book, "free", state(take=(1, 1))), [state(0, 1, 1), state(0, 1, 2)])
        book = Book(take=("look", "add", "live"), fails="wait")
        self.assert_same(helped(book, "free", state(take=(0, 1))), [state(take=(1, 1))])
        self.assert_same(helped(book, "free", state(take=(1, 1))), [state(take=(2, 1))])
        book = Book(take=("add", "look", "live"), fails="undo")
        self.assert_same(helped(book, "free", state(take=(0, 1))), [state(take=(1, 1))])
        self.assert_same(helped(book, "free", state(take=(1, 1))), [state(take=(-1, 0))])
        self.assert_same(helped(book, "free", state(take=(2, 1))), [state(take=(-1, 0))])
        self.assert_same(helped(book, "free", state(take=(2, 0))), [state(0, 1, 3)])
        self.assert_same(helped(book, "free", state(take=(1, 0))), [state(0, 3)])

    def test_gone_in_words(self):
        lives = state(1, 1, 2)
        self.assert_same(helped(Book(), "gone", lives), [state(1, 1, 2, lift=(0, 2))])
        self.assert_same(helped(Book(lift=()), "gone", lives), [])
        self.assert_same(helped(Book(), "gone", START), [state(1)])
        self.assert_same(helped(Book(), "gone", state(0, 1, 1)), [state(0, 1, 1, lift=(0, 1)), state(1, 1, 1)])
        self.assert_same(helped(Book(), "gone", state(1, 0, 0, take=(0, 1))), [state(1, 3)])
        self.assert_same(helped(Book(), "gone", state(1, 0, 0, take=(1, 1))), [state(1, take=(-1, 0))])
        self.assert_same(helped(Book(), "gone", state(1, 0, 0, take=(1, 0))), [state(1, 1, 3)])
        self.assert_same(helped(Book(), "gone", state(1, 1, 2, give=(0, -1))), [state(1, 1, 2, give=(1, 1))])
        # a lift may always begin that no other walk keeps from it
        book = Book(move=(), holds=("give", "lift"))
        self.assert_same(helped(book, "gone", state(0, 1, 3)), [state(0, 1, 3, lift=(0, 3)), state(1, 1, 3)])
        self.assert_same(helped(book, "gone", state(1, 1, 2, give=(1, 1))), [state(1, 1, 2, give=(2, 1))])

    def test_gone_of_stocks_in_words(self):
        for home, side in ((1, 1), (2, 1), (3, 0)):
            settle = state(1, 3, home, settle=(side,))
            self.assert_same(helped(Book(batch=4), "gone", state(1, 2, home)), [settle])
            self.assert_same(helped(STAYS, "gone", state(1, 2, home)), [])
            self.assert_same(helped(STAYS, "gone", settle), [state(1, 3, home)])
            used = [state(1, 1, home)] if home == 3 else []
            self.assert_same(helped(STAYS, "free", state(1, 2, home)), sorted(used + [settle]))

    def test_states_out_of_the_table(self):
        value = state(0, 3, 1, give=(0, -1), move=(0, -1, 1), lift=(0, 2), settle=(1,))
        for book, wish in itertools.product((Book(), WAITS, STAYS), WISHES):
            self.assert_same(helped(book, wish, value), plain_helped(book, wish, value))


class TestSure(Checks):

    def test_against_a_plain_closure(self):
        seen = {}
        for book in all_kept_books():
            plain = PlainTable(book)
            for wish in WISHES:
                wanted = plain.unsure(wish) == []
                self.assert_same(is_sure(book, wish), wanted)
                self.assertEqual(ranks(book, wish) is not None, wanted)
                self.assertEqual(trap(book, wish) is None, wanted)
                seen[wish, wanted] = seen.get((wish, wanted), 0) + 1
        self.assertEqual(len(seen), 4)
        self.assertGreater(min(seen.values()), 10)

    def test_in_words(self):
        for fails, move in itertools.product(FAILS, [(), ("home", "try", "set", "off")]):
            book = Book(fails=fails, move=move)
            if keeps(book, "once"):
                self.assert_same(is_sure(book, "free"), fails != "wait" or move == ())
        for lift, settles, batch in itertools.product([(), ("both",), ("set", "off")], (True, False), (1, 2)):
            book = Book(lift=lift, settles=settles, batch=batch)
            self.assert_same(is_sure(book, "gone"), lift != () and (settles or batch == 1))
            self.assert_same(is_sure(book, "free"), True)
        self.assert_same([is_sure(LATE, "free"), is_sure(Book(take=LATE.row("take"), move=(), fails="wait"), "free")],
                         [True, False])


class TestRanks(Checks):

    def test_those_that_are_told(self):
        for book in all_kept_books():
            totals = {value: ends[0] for value, ends in sums(book).items()}
            for wish in WISHES:
                found = ranks(book, wish)
                if found is None:
                    continue
                self.assertIsInstance(found, list)
                self.assertEqual([value for value, _, _ in found], table(book))
                self.assertEqual([total for _, total, _ in found], [totals[value] for value, _, _ in found])
                self.assertTrue(plain_are_ranks(book, wish, found))
                self.assertIs(are_ranks(book, wish, found), True)
                self.assertIs(are_ranks(book, wish, tuple(found[::-1])), True)

    def test_none_are_ranks_where_the_wish_is_not_kept(self):
        for book, wish in ((WAITS, "free"), (Book(lift=()), "gone"), (STAYS, "gone")):
            totals = {value: ends[0] for value, ends in sums(book).items()}
            for rank in (0, 1, 2):
                told = [(value, totals[value], None if wish == "gone" and value[0] == 0 else
                         0 if totals[value] == 0 else rank) for value in totals]
                self.assertIs(are_ranks(book, wish, told), False)

    def test_one_thing_spoilt(self):
        draw = random.Random(27)
        seen = {True: 0, False: 0}
        for book in all_kept_books()[::3]:
            for wish in WISHES:
                found = ranks(book, wish)
                for _ in range(12 if found else 0):
                    spoilt = self.spoil(draw, wish, found)
                    wanted = plain_are_ranks(book, wish, spoilt)
                    self.assertIs(are_ranks(book, wish, spoilt), wanted)
                    seen[wanted] += 1
        self.assertGreater(min(seen.values()), 15)

    def spoil(self, draw, wish, found):
        at = draw.randrange(len(found))
        value, total, rank = found[at]
        others = {0: [], 1: [(value, total, rank)] * 2, 2: [(value, total + draw.choice([-1, 1]), rank)],
                  3: [(value, total, draw.choice([0, 1, 2, 3, 9, 10 ** 39, None]))],
                  4: [(value, total, 0 if rank is None else rank + 1)]}
        return found[:at] + others[draw.randrange(5)] + found[at + 1:]

    def test_each_state_left_out(self):
        for wish in WISHES:
            found = ranks(Book(), wish)
            for at in range(len(found)):
                self.assertIs(are_ranks(Book(), wish, found[:at] + found[at + 1:]), False)

    def test_greater_ranks_do(self):
        for wish in WISHES:
            found = ranks(Book(batch=2), wish)
            twice = [(value, total, None if rank is None else 2 * rank) for value, total, rank in found]
            self.assertIs(are_ranks(Book(batch=2), wish, twice), True)
            more = [(value, total, None if rank is None else rank + 1) for value, total, rank in found]
            self.assertIs(are_ranks(Book(batch=2), wish, more), False)

    def test_none_only_where_it_is_not_struck(self):
        free, gone = ranks(Book(), "free"), ranks(Book(), "gone")
        self.assert_same([are_ranks(Book(), "gone", free), are_ranks(Book(), "free", gone)], [False, False])
        self.assertEqual([value[0] for value, _, rank in gone if rank is None],
                         [0 for value, _, _ in gone if value[0] == 0])
        for at, (value, total, rank) in enumerate(gone):
            other = (value, total, 0 if rank is None else None)
            self.assertIs(are_ranks(Book(), "gone", gone[:at] + [other] + gone[at + 1:]), False)

    def test_states_that_are_not_in_the_table(self):
        extra = state(1, 3, 2, lift=(0, 1))
        self.assertNotIn(extra, table(Book()))
        for wish, rank, total in itertools.product(WISHES, (0, 1, 2), (-1, 0, 1)):
            found = ranks(Book(), wish)
            told = {value: (one, other) for value, one, other in found}
            to_do = [(extra, total)]
            while to_do:
                value, here = to_do.pop()
                if value not in told:
                    told[value] = (here, rank)
                    to_do += [(after, here) for after in nexts(Book(), value)]
            entries = [(value, *pair) for value, pair in told.items()]
            self.assertIs(are_ranks(Book(), wish, entries), plain_are_ranks(Book(), wish, entries))

    def test_wrong_kinds(self):
        for wish in WISHES:
            found = ranks(Book(), wish)
            for value in NO_RANKS:
                self.assertIs(are_ranks(Book(), wish, value), False, value)
            for at in (0, 3, len(found) // 2, len(found) - 1):
                value, total, rank = found[at]
                for other in ([value, total, rank], (list(value), total, rank), (value, total), (value, total, rank, 0),
                              (value, str(total), rank), (value, bool(total), rank), (value, None, rank),
                              (value, total, str(rank)), (value, total, bool(rank)), (value, total, -1),
                              (value, total, (rank,)), (total, value, rank), None, value, (), [],
                              ((bool(value[0]), *value[1:]), total, rank), {value: (total, rank)}):
                    self.assertIs(are_ranks(Book(), wish, found[:at] + [other] + found[at + 1:]), False, other)
                self.assertIs(are_ranks(Book(), wish, found + [found[at]]), False)
            for other in (iter(found), {value: (total, rank) for value, total, rank in found}, set(found)):
                self.assertIs(are_ranks(Book(), wish, other), False)


def plainly_trapped(book, wish, value):
    """Point 73, by the plain run and the plain rules, of a tuple whose parts have the right form."""
    deeds, group, unit, pairs = value
    run = PlainRun(book)
    for deed in deeds:
        try:
            run.do(deed)
        except Fault:
            return False
    if not 1 <= group < len(run.parents) or unit not in run.units() or not plain_are_pairs(book, wish, pairs):
        return False
    if not all(is_state(book, one) for one, _ in pairs):
        return False
    one = run.charged(group, unit)
    if not isinstance(unit, int):
        one = one // run.stocks[unit[1]][1]
    return (run.sight(group, unit), one) in pairs


class TestTraps(Checks):

    def told(self):
        """Books, wishes and traps for all of them that are not kept."""
        found = [(book, wish, trap(book, wish)) for book in all_kept_books() for wish in WISHES]
        return [one for one in found if one[2] is not None]

    def test_those_that_are_told(self):
        told = self.told()
        self.assertEqual({wish for _, wish, _ in told}, set(WISHES))
        self.assertEqual({isinstance(found[2], tuple) for _, _, found in told}, {True, False})
        for book, wish, found in told:
            self.assert_trap(book, wish, found)

    def assert_trap(self, book, wish, found):
        self.assertIsInstance(found, tuple)
        deeds, group, unit, pairs = found
        self.assertIsInstance(deeds, list)
        self.assertIsInstance(pairs, list)
        run = Run(book)
        run.do_all(deeds)
        self.assertGreater(group, 0)
        many = run.stock(unit[1])[1] if isinstance(unit, tuple) else 1
        self.assertIn((sight(run, group, unit), charged(run, group, unit) // many), pairs)
        self.assertTrue(plain_are_pairs(book, wish, pairs))
        self.assertTrue(plainly_trapped(book, wish, found))
        self.assertIs(is_trap(book, wish, found), True)
        self.assertIs(is_trap(book, wish, (tuple(deeds), group, unit, tuple(pairs))), True)

    def test_pairs_are_not_helped_to_the_sum_0(self):
        for book, wish, (_, _, _, pairs) in self.told():
            stuck = PlainTable(book).unsure(wish)
            self.assertTrue(all(value in stuck for value, _ in pairs))

    def test_one_thing_spoilt(self):
        draw = random.Random(28)
        seen = {True: 0, False: 0}
        for book, wish, found in self.told()[::2]:
            for _ in range(14):
                spoilt = self.spoil(draw, found)
                wanted = plainly_trapped(book, wish, spoilt)
                self.assertIs(is_trap(book, wish, spoilt), wanted)
                seen[wanted] += 1
        self.assertGreater(min(seen.values()), 20)

    def spoil(self, draw, found):
        deeds, group, unit, pairs = found
        at, there = draw.randrange(len(deeds)), draw.randrange(len(pairs))
        value, total = pairs[there]
        return draw.choice([
            (deeds[:at] + deeds[at + 1:], group, unit, pairs), (deeds[:at] + [deeds[at]] + deeds[at:], group, unit, pairs),
            (deeds, draw.randrange(7), unit, pairs), (deeds, group, draw.choice([0, 1, ("stock", 0), ("stock", 1)]), pairs),
            (deeds, group, unit, pairs[:there] + pairs[there + 1:]), (deeds, group, unit, pairs + [pairs[there]]),
            (deeds, group, unit, pairs[:there] + [(value, total + draw.choice([-2, -1, 1, 2]))] + pairs[there + 1:]),
            (deeds, group, unit, pairs[:there] + [((1 - value[0], *value[1:]), total)] + pairs[there + 1:]),
            (deeds[:at] + [("strike", group)] + deeds[at:], group, unit, pairs)])

    def test_pairs_of_other_runs(self):
        """Things and stocks of drawn runs are in a trap exactly where the plain rules say so."""
        seen = {True: 0, False: 0}
        for number, (book, wish, found) in enumerate(self.told()[:24]):
            draw, run = random.Random(number), Run(book)
            plain = PlainTable(book)
            totals = {value: total for value, total in plain.sums()}
            pairs = [(value, totals[value]) for value in plain.unsure(wish)]
            for _ in range(60):
                answer(run, draw_deed(draw, run, wrong=0))
            for group, unit in itertools.product(range(len(run.tree)), units(run)):
                value = (run.log(), group, unit, pairs)
                wanted = group > 0 and sight(run, group, unit) in dict(pairs)
                if wanted or draw.random() < 0.2:
                    self.assertIs(is_trap(book, wish, value), wanted)
                    seen[wanted] += 1
        self.assertGreater(min(seen.values()), 15)

    def test_values_of_other_kinds(self):
        for book, wish in ((WAITS, "free"), (Book(lift=()), "gone"), (STAYS, "gone")):
            deeds, group, unit, pairs = trap(book, wish)
            for value in [None, True, 0, "", "trap", b"", [], (), {}, set(), object(), len, [deeds, group, unit, pairs],
                          (deeds, group, unit), (deeds, group, unit, pairs, None), ((deeds, group, unit, pairs),),
                          {0: deeds, 1: group, 2: unit, 3: pairs}, (pairs, unit, group, deeds)]:
                self.assertIs(is_trap(book, wish, value), False, value)
            for other in NO_LISTS_OF_DEEDS:
                self.assertIs(is_trap(book, wish, (other, group, unit, pairs)), False, other)
            for other in (None, True, False, 0, -1, 7, 200, 10 ** 39, "2", "", [group], (group,), {}, object()):
                self.assertIs(is_trap(book, wish, (deeds, other, unit, pairs)), False, other)
            for other in (None, True, False, -1, 1, 1000, "", "0", "stock", ("stock",), ("stock", 1), ("stock", False),
                          ["stock", 0], ("stock", 0, 0), ("Stock", 0), (0,), [0], {}, object()):
                self.assertIs(is_trap(book, wish, (deeds, group, other, pairs)), False, other)
            for other in (None, True, 0, "", {}, dict(pairs), set(pairs), iter(pairs), [], (), [None], [()],
                          pairs + [None], pairs + [()], pairs + [(START, 0)], pairs + [(START,)],
                          [list(pair) for pair in pairs], [pair[0] for pair in pairs], [(*pair, 0) for pair in pairs],
                          [(value, bool(total)) for value, total in pairs], [(value, str(total)) for value, total in pairs],
                          [(list(value), total) for value, total in pairs], [(total, value) for value, total in pairs],
                          [((*value[:7],), total) for value, total in pairs], [(value, None) for value, _ in pairs],
                          [((bool(value[0]), *value[1:]), total) for value, total in pairs]):
                self.assertIs(is_trap(book, wish, (deeds, group, unit, other)), False, other)

    def test_in_words(self):
        pairs = [(state(1, 1, 2), 1)]
        deeds = [("group", 0), ("take", 7, 1), ("step", 7), ("step", 7), ("step", 7), ("strike", 1)]
        book = Book(lift=())
        self.assert_same(is_trap(book, "gone", (deeds, 1, 0, pairs)), True)
        self.assert_same(is_trap(book, "gone", (deeds[:-1], 1, 0, pairs)), False)
        self.assert_same(is_trap(book, "gone", (deeds, 0, 0, pairs)), False)
        self.assert_same(is_trap(book, "gone", (deeds, 1, 0, [(state(1, 1, 2), 2)])), False)
        self.assert_same(is_trap(book, "gone", (deeds + [("take", 7, 0)], 1, 0, pairs)), True)
        self.assert_same(is_trap(Book(), "gone", (deeds, 1, 0, pairs)), False)
        self.assert_same(is_trap(book, "free", (deeds, 1, 0, pairs)), False)
        many = [(state(1, 1, home), 1) for home in (1, 2)] + [(state(1, 1, 2, give=(2, 1)), -7)]
        self.assert_same(is_trap(book, "gone", (deeds, 1, 0, many)), False)
        self.assert_same(is_trap(book, "gone", (deeds, 1, 0, many[:2])), True)

    def test_pairs_besides_those_of_the_unit(self):
        deeds = [("group", 0), ("take", 7, 1), ("step", 7), ("step", 7), ("step", 7), ("strike", 1)]
        book, pairs = Book(lift=()), [(state(1, 1, 2), 1)]
        for more, wanted in (([(state(1, 3), 5)], True), ([(state(1, 3), -5)], True), ([(state(1, 3), 0)], False),
                             ([(state(0, 3), 5), (state(1, 3), 5)], False), ([(state(0, 3), 5)], False),
                             ([(state(1, 3, give=(2, 0)), 5), (state(1, 3), 5)], True),
                             ([(state(1, 3, give=(2, 0)), 5), (state(1, 3), 4)], False),
                             ([(state(1, 3, give=(1, 1)), 5), (state(1, 3, give=(2, 1)), 4), (state(1, 3), 4)], True),
                             ([(state(1, 3, give=(1, 1)), 1), (state(1, 3, give=(2, 1)), 0), (state(1, 3), 0)], False)):
            self.assertIs(is_trap(book, "gone", (deeds, 1, 0, pairs + more)), wanted)
            self.assertIs(is_trap(book, "gone", (deeds, 1, 0, more)), False)

    def test_a_stock_is_told_by_one_charge(self):
        deeds = [("group", 0), ("take", 7, 1), ("step", 7), ("step", 7), ("step", 7), ("strike", 1)]
        for total in (1, 2, 3, 4, -1):
            self.assert_same(is_trap(STAYS, "gone", (deeds, 1, ("stock", 7), [(state(1, 2, 2), total)])), total == 1)
        self.assert_same(is_trap(Book(batch=4), "gone", (deeds, 1, ("stock", 7), [(state(1, 2, 2), 1)])), False)
        self.assert_same(is_trap(STAYS, "gone", (deeds, 1, 0, [(state(1, 2, 2), 1)])), False)

    def test_steps_that_wait_are_let(self):
        found = [(state(0, 1, 2, move=(1, 1, 1)), 1), (state(0, 1, 2, move=(0, -1, 1)), 1)]
        deeds = [("group", 0), ("limit", 1, 1), ("take", 7, 1), ("step", 7), ("step", 7), ("step", 7), ("move", 7, 0, 1),
                 ("step", 7), ("step", 7), ("step", 7)]
        self.assert_same(is_trap(WAITS, "free", (deeds, 1, 0, found)), True)
        self.assert_same(is_trap(WAITS, "free", (deeds, 1, 0, found[:1])), True)
        self.assert_same(is_trap(WAITS, "free", (deeds, 1, 0, found[1:])), False)

    def test_values_stay_as_they_were(self):
        found = trap(WAITS, "free")
        kept = repr(found)
        is_trap(WAITS, "free", found)
        self.assertEqual(repr(found), kept)
        self.assertEqual(KINDS, WAITS.holds)


if __name__ == "__main__":
    unittest.main()
