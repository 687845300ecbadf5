"""Bad runs: told exactly if a wish is not kept, and judged by what a run does that follows them."""

import inspect
import random
import unittest

from books import books_with_each_row, kept_books, small_book
from chargeways import badruns
from chargeways.badruns import bad_run, is_bad_run
from chargeways.books import Book
from chargeways.errors import InvalidWish, TooMany
from chargeways.runs import Run
from chargeways.tables import keeps
from common import Checks, draw_book, taken, words_to_the_end
from drawn import answer, draw_deed
from plainrun import Fault, PlainRun
from test_tables import HUGE, LOOSE, NO_SUM_WISHES, WISHES

NO_LISTS_OF_DEEDS = [None, True, False, 0, 1, "", "take", b"", {}, {("group", 0): 1}, set(), {("group", 0)}, object(),
                     len, iter([("group", 0)]), ("group", 0), [("group",)], [["group", 0]], ["group 0"], [None], [()],
                     [0], [("group", True)], [("group", False)], [("group", None)], [("group", 0), None],
                     [("undo",)], [("group", 0, 0)], [{"group": 0}], [[("group", 0)]]]

ENDS_BY_A_STOCK = Book(batch=3, give=("end",), holds=())


def plainly_bad(book, wish, deeds):
    """Point 64, by the plain run, of a list of deeds that are told in the right form."""
    run = PlainRun(book)
    for deed in deeds:
        try:
            run.do(deed)
        except Fault:
            return False
    if run.walks or run.stocks:
        return False
    gaps = [run.counts[group] - run.due(group) for group in range(1, len(run.parents))]
    return any(gap > 0 if wish == "once" else gap < 0 for gap in gaps)


class BadRunChecks(Checks):

    def assert_bad_run(self, book, wish, found):
        self.assertIsInstance(found, list)
        run = Run(book)
        run.do_all(found)
        self.assertTrue(run.at_rest)
        self.assertEqual(run.log(), found)
        self.assertTrue(plainly_bad(book, wish, found))
        self.assertIs(is_bad_run(book, wish, found), True)
        self.assertIs(is_bad_run(book, wish, tuple(found)), True)


class TestInterface(BadRunChecks):

    def test_functions_and_their_parameters(self):
        for name, names in (("bad_run", ["book", "wish"]), ("is_bad_run", ["book", "wish", "value"])):
            found = getattr(badruns, name)
            self.assertEqual(found.__module__, "chargeways.badruns")
            self.assertEqual(list(inspect.signature(found).parameters), names)

    def test_by_name(self):
        found = bad_run(wish="kept", book=LOOSE)
        self.assertEqual(found, bad_run(LOOSE, "kept"))
        self.assertIs(is_bad_run(value=found, wish="kept", book=LOOSE), True)

    def test_no_wishes(self):
        for value in NO_SUM_WISHES:
            self.assert_raises(InvalidWish, {"value": value}, bad_run, HUGE, value)
            self.assert_raises(InvalidWish, {"value": value}, is_bad_run, LOOSE, value, None)

    def test_lists_are_new(self):
        first = bad_run(LOOSE, "kept")
        kept = list(first)
        self.assertTrue(is_bad_run(LOOSE, "kept", first))
        self.assertEqual(first, kept)
        first.clear()
        self.assertEqual(bad_run(LOOSE, "kept"), kept)

    def test_too_many_states(self):
        for wish in WISHES:
            self.assert_raises(TooMany, {"what": "states", "limit": 4000}, bad_run, HUGE, wish)
            self.assertIs(is_bad_run(HUGE, wish, []), False)
        run = Run(HUGE)
        run.new_group(0)
        for _ in range(2):
            run.take(0, 1) if run.things == 0 else run.move(0, 0, 1)
            words_to_the_end(run, 0)
        self.assertIs(is_bad_run(HUGE, "once", run.log()), True)
        self.assertIs(is_bad_run(HUGE, "kept", run.log()), False)


class TestToldBadRuns(BadRunChecks):

    def test_told_exactly_if_the_wish_is_not_kept(self):
        books = [*books_with_each_row(11), *kept_books(12, 30), LOOSE, Book(), ENDS_BY_A_STOCK]
        told = {True: 0, False: 0}
        for book in books:
            for wish in WISHES:
                found = bad_run(book, wish)
                self.assertEqual(found is None, keeps(book, wish), (book, wish))
                if found is not None:
                    self.assert_bad_run(book, wish, found)
                told[found is None] += 1
        self.assertGreater(min(told.values()), 60)

    def test_drawn_books_of_any_size(self):
        draw = random.Random(13)
        told = 0
        while told < 60:
            book = draw_book(draw)
            for wish in WISHES:
                try:
                    found = bad_run(book, wish)
                except TooMany:
                    continue
                if found is not None:
                    self.assert_bad_run(book, wish, found)
                    told += 1

    def test_books_whose_moves_leave_groups_out(self):
        draw = random.Random(14)
        for fails in ("undo", "leave", "wait"):
            for move in (("home", "try", "off", "set"), ("home", "look", "off", "set", "add"),
                         ("home", "add", "look", "set"), ("home", "off", "set")):
                book = small_book(draw, 700, {"shared": False, "fails": fails, "move": move})
                for wish in WISHES:
                    found = bad_run(book, wish)
                    self.assertEqual(found is None, keeps(book, wish))
                    if found is not None:
                        self.assert_bad_run(book, wish, found)

    def test_no_run_of_a_book_that_keeps_the_wish_is_bad(self):
        draw = random.Random(15)
        for book in kept_books(16, 30):
            run = Run(book)
            for _ in range(80):
                answer(run, draw_deed(draw, run, wrong=0))
            for group in range(len(run.tree)):
                run.set_limit(group, None)
            for _ in range(2):
                for hand in range(100):
                    words_to_the_end(run, hand)
                    if run.stock(hand) is not None:
                        run.settle(hand)
            self.assertTrue(run.at_rest)
            for wish in WISHES:
                self.assertIs(is_bad_run(book, wish, run.log()), False)


class TestJudging(BadRunChecks):

    def bad(self, *more, batch=1):
        """Deeds by which the group 1 and the top have one too many, and more deeds behind."""
        run = Run(Book(give=("end",), batch=batch))
        run.new_group(0)
        taken(run, 0, 1)
        run.give(1, 0)
        run.step(1)
        return run.log() + list(more)

    def judge(self, deeds, wish="once", **parts):
        return is_bad_run(Book(give=("end",), **parts), wish, deeds)

    def test_above_and_below(self):
        self.assert_same([self.judge(self.bad()), self.judge(self.bad(), "kept")], [True, False])
        run = Run(Book(move=("set",)))
        for _ in range(2):
            run.new_group(0)
        taken(run, 0, 1)
        run.move(0, 0, 2)
        run.step(0)
        self.assert_same([is_bad_run(run.book, wish, run.log()) for wish in WISHES], [True, True])
        run.move(0, 0, 0)
        run.step(0)
        # the group 1 has one too many, the group 2 is right again
        self.assert_same([is_bad_run(run.book, wish, run.log()) for wish in WISHES], [True, False])

    def test_the_top_alone_is_not_enough(self):
        run = Run(Book(give=("end",)))
        taken(run, 0, 0)
        run.give(0, 0)
        run.step(0)
        self.assertIs(self.judge(run.log()), False)
        run.new_group(0)
        self.assertIs(self.judge(run.log()), False)

    def test_only_at_rest(self):
        for more in ([("take", 3, 1)], [("take", 3, 0), ("step", 3)]):
            self.assertIs(self.judge(self.bad(*more)), False)
        deeds = self.bad(batch=2)
        self.assertIs(self.judge(deeds, batch=2), False)
        self.assertIs(self.judge(deeds + [("settle", 0, 0)], batch=2), False)
        self.assertIs(self.judge(deeds + [("settle", 0, 0), ("step", 0)], batch=2), False)
        self.assertIs(self.judge(deeds + [("settle", 0, 0), ("step", 0), ("step", 0)], batch=2), True)

    def test_each_deed_left_out_or_twice(self):
        draw = random.Random(17)
        seen = {True: 0, False: 0}
        for _ in range(12):
            book = small_book(draw, 500, {})
            for wish in WISHES:
                found = bad_run(book, wish)
                for at in range(len(found or [])):
                    for spoilt in (found[:at] + found[at + 1:], found[:at] + [found[at]] + found[at:], found[:at]):
                        wanted = plainly_bad(book, wish, spoilt)
                        self.assertIs(is_bad_run(book, wish, spoilt), wanted)
                        seen[wanted] += 1
        self.assertGreater(min(seen.values()), 20)

    def test_deeds_that_cannot_be_done(self):
        for deed in (("step", 0), ("step", 100), ("group", 2), ("group", -1), ("strike", 0), ("give", 0, 0),
                     ("give", 0, 1), ("lift", 0, 0), ("move", 0, 0, 1), ("settle", 0, 0), ("limit", 7, 1),
                     ("take", 100, 1), ("take", -1, 1), ("take", 0, 10 ** 39)):
            self.assertIs(self.judge(self.bad(deed)), False)
            self.assertIs(self.judge([deed] + self.bad()), False)
        self.assertIs(self.judge(self.bad(*[("group", 0)] * 198)), True)
        self.assertIs(self.judge(self.bad(*[("group", 0)] * 199)), False)
        self.assertIs(self.judge(self.bad(("limit", 1, None), ("limit", 1, -(10 ** 39)), ("strike", 1))), True)

    def test_values_of_other_kinds(self):
        for value in NO_LISTS_OF_DEEDS:
            for wish in WISHES:
                self.assertIs(is_bad_run(Book(give=("end",)), wish, value), False, value)
            if isinstance(value, list):
                self.assertIs(self.judge(value + self.bad()), False, value)
                self.assertIs(self.judge(self.bad() + value), False, value)
        deeds = self.bad()
        for other in (iter(deeds), dict(enumerate(deeds)), set(deeds), repr(deeds), [deeds], (deeds,)):
            self.assertIs(self.judge(other), False)
        for at, deed in enumerate(deeds):
            for other in (list(deed), deed[:-1], (*deed, 0), (*deed[:-1], str(deed[-1])), (*deed[:-1], None),
                          (*deed[:-1], bool(deed[-1])), " ".join(str(part) for part in deed), deed[0].upper(), None,
                          (deed[0].upper(), *deed[1:]), (None, *deed[1:])):
                self.assertIs(self.judge(deeds[:at] + [other] + deeds[at + 1:]), False, other)

    def test_none_and_empty(self):
        for wish in WISHES:
            for book in (Book(), LOOSE):
                self.assert_same([is_bad_run(book, wish, []), is_bad_run(book, wish, ()),
                                  is_bad_run(book, wish, None)], [False] * 3)

    def test_steps_that_wait_are_let(self):
        book = Book(give=("end",), fails="wait")
        deeds = [("group", 0), ("limit", 1, 0), ("take", 0, 1), ("step", 0), ("step", 0), ("limit", 1, 1), ("step", 0),
                 ("step", 0), ("step", 0), ("give", 0, 0), ("step", 0)]
        self.assertIs(is_bad_run(book, "once", deeds), True)
        self.assertIs(is_bad_run(book, "once", deeds[:5] + deeds[6:]), False)

    def test_steps_that_fail_are_deeds(self):
        book = Book(fails="leave")
        deeds = [("limit", 0, 0), ("group", 0), ("take", 5, 1), ("step", 5), ("step", 5)]
        self.assertIs(is_bad_run(book, "once", deeds), True)
        self.assertIs(is_bad_run(book, "once", deeds[:4]), False)
        self.assertIs(is_bad_run(Book(), "once", deeds), False)


if __name__ == "__main__":
    unittest.main()
