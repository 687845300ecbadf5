"""Forms, the most above, and crowds: by how much a limit is passed, and runs that pass it by that."""

import inspect
import itertools
import random
import unittest

from chargeways import forms
from chargeways.books import Book
from chargeways.errors import InvalidCount, NoEnd
from chargeways.forms import crowd, form, is_crowd, most_above
from chargeways.runs import Run
from common import FAILS, KINDS, NO_INTEGERS, ROWS, Checks, fits, words_to_the_end
from drawn import answer, draw_deed
from plainrun import Fault, PlainRun
from plaintables import plain_form
from test_badruns import NO_LISTS_OF_DEEDS

NAMES = {"form": ["book"], "most_above": ["book", "hands"], "crowd": ["book", "hands"],
         "is_crowd": ["book", "hands", "value"]}

NO_HANDS = NO_INTEGERS + [0, -1, -20, -(10 ** 39)]

APART = Book(take=("look", "add", "live"), move=("home", "add", "look", "set", "off"), batch=4)

NO_ENDS = [Book(take=("add", "live")), Book(take=("live", "add")), Book(move=("home", "add", "set", "off")),
           Book(take=("add", "look", "live"), fails="leave"), Book(move=("add", "look", "set"), fails="leave"),
           Book(take=("look", "add", "live"), move=("set", "add"))]


def most_with(book, hands):
    """Point 81, in plain words."""
    ahead, behind = plain_form(book)
    return (hands - 1) * ahead + hands * behind


def plainly_a_crowd(book, hands, deeds):
    """Point 82, by the plain run, of a list of deeds that are told in the right form."""
    run = PlainRun(book)
    taken = False
    for deed in deeds:
        try:
            run.do(deed)
        except Fault:
            return False
        taken = taken or deed[0] == "take"
        if len(run.walks) > hands or taken and deed[0] == "limit":
            return False
    limits = [(limit, count) for limit, count in zip(run.limits, run.counts) if limit is not None]
    return any(limit > 0 and limit % book.batch == 0 and count - limit == most_with(book, hands)
               for limit, count in limits)


def comes_back(book):
    """Whether the moves of the book take off where they have added, so that no crowd goes on behind them."""
    row, lift = book.row("move"), book.row("lift")
    if "off" not in row or row.index("set") > row.index("home") or row.index("off") < row.index("add"):
        return False
    lifts = "set" in lift or "both" in lift
    return not lifts or "move" in book.holds and "lift" in book.holds


def has_a_crowd(book, hands):
    """Whether some run comes to the number of point 81; some odd moves beside late takes leave less behind."""
    row = book.row("move")
    looks = "look" in row and "add" in row and row.index("look") < row.index("add")
    return hands == 1 or not (book.row("take") == ("add", "look", "live") and looks and comes_back(book))


def books_with_an_end():
    """Books with each row of takes and moves, and all else drawn, for which most above has an end."""
    draw = random.Random(31)
    for take, move, shared in itertools.product(ROWS["take"], ROWS["move"], (True, False)):
        parts = {"take": take, "move": move, "shared": shared, "fails": draw.choice(FAILS),
                 "batch": draw.choice([1, 2, 3, 7, 50]), "lift": draw.choice(ROWS["lift"]),
                 "give": draw.choice(ROWS["give"]), "holds": [kind for kind in KINDS if draw.random() < 0.5]}
        if fits(parts) and plain_form(Book(**parts)) is not None:
            yield Book(**parts)


class TestInterface(Checks):

    def test_functions_and_their_parameters(self):
        for name, names in NAMES.items():
            found = getattr(forms, name)
            self.assertEqual(found.__module__, "chargeways.forms")
            self.assertEqual(list(inspect.signature(found).parameters), names)

    def test_example(self):
        self.assert_same([form(APART), most_above(APART, 3), form(Book()), form(Book(take=("add", "live")))],
                         [(4, 1), 11, (0, 0), None])

    def test_by_name(self):
        found = crowd(hands=3, book=APART)
        self.assert_same([form(book=APART), most_above(hands=3, book=APART), found, is_crowd(value=found, hands=3,
                                                                                          book=APART)],
                         [(4, 1), 11, crowd(APART, 3), True])

    def test_no_hands(self):
        for book in [APART, Book()] + NO_ENDS:
            for value in NO_HANDS:
                for call in (most_above, crowd):
                    self.assert_raises(InvalidCount, {"value": value}, call, book, value)
                self.assert_raises(InvalidCount, {"value": value}, is_crowd, book, value, [])

    def test_too_many_hands(self):
        for book in (APART, NO_ENDS[0]):
            for value in (21, 22, 100, 10 ** 39):
                self.assert_raises(InvalidCount, {"value": value}, crowd, book, value)
        for value in (21, 100, 10 ** 39):
            self.assert_same([most_above(APART, value), is_crowd(APART, value, [])], [5 * value - 4, False])

    def test_no_end(self):
        for book in NO_ENDS:
            for hands in (1, 2, 20):
                self.assert_same([form(book), most_above(book, hands)], [None, None])
                self.assert_raises(NoEnd, {}, crowd, book, hands)
                for value in (None, [], crowd(Book(), 1)):
                    self.assert_raises(NoEnd, {}, is_crowd, book, hands, value)
            self.assert_raises(NoEnd, {}, is_crowd, book, 21, [])

    def test_lists_are_new(self):
        first = crowd(APART, 2)
        wanted = list(first)
        self.assertTrue(is_crowd(APART, 2, first))
        self.assertEqual(first, wanted)
        first.clear()
        self.assertEqual(crowd(APART, 2), wanted)


class TestForms(Checks):

    def test_each_take_and_move(self):
        seen = {}
        for take, move, fails, shared, batch in itertools.product(ROWS["take"], ROWS["move"], FAILS, (True, False),
                                                                  (1, 6)):
            parts = {"take": take, "move": move, "fails": fails, "shared": shared, "batch": batch}
            if fits(parts):
                book = Book(**parts)
                self.assert_same(form(book), plain_form(book))
                seen[form(book)] = True
                for hands in (1, 2, 5, 10 ** 39):
                    wanted = None if form(book) is None else most_with(book, hands)
                    self.assert_same(most_above(book, hands), wanted)
        self.assertEqual(set(seen), {None, (0, 0), (0, 1), (0, 6), (1, 0), (1, 1), (1, 6), (6, 0), (6, 1)})

    def test_in_words(self):
        early, late = ("look", "add", "live"), ("add", "look", "live")
        self.assert_same([form(Book(take=early, batch=5)), form(Book(take=late, batch=5)),
                          form(Book(take=early, batch=5, fails="leave")),
                          form(Book(take=late, batch=5, fails="leave")), form(Book(take=late, batch=5, fails="wait"))],
                         [(5, 0), (0, 5), (5, 0), None, (0, 5)])
        self.assert_same([form(Book(move=("look", "add", "set"), batch=5)), form(Book(move=("add", "look", "set"))),
                          form(Book(move=("look", "set"))), form(Book(move=("set", "add"))), form(Book(move=()))],
                         [(1, 0), (0, 1), (0, 0), None, (0, 0)])
        self.assert_same([most_above(Book(take=early, batch=5), 1), most_above(Book(take=early, batch=5), 4),
                          most_above(Book(take=late, batch=5), 1), most_above(Book(take=late, batch=5), 4),
                          most_above(Book(), 20)], [0, 15, 5, 20, 0])

    def test_other_parts_change_nothing(self):
        for parts in ({"give": ("end",)}, {"lift": ()}, {"shared": False}, {"holds": ()}, {"settles": False}):
            self.assert_same(form(Book(take=APART.row("take"), move=APART.row("move"), batch=4, **parts)), (4, 1))


class TestCrowds(Checks):

    def test_those_that_are_told(self):
        draw, told = random.Random(32), 0
        for book in books_with_an_end():
            for hands in {1, 2, draw.randrange(3, 21)}:
                if has_a_crowd(book, hands):
                    found = crowd(book, hands)
                    self.assertIsInstance(found, list)
                    self.assertTrue(plainly_a_crowd(book, hands, found), (book, hands))
                    self.assertIs(is_crowd(book, hands, found), True)
                    self.assertIs(is_crowd(book, hands, tuple(found)), True)
                    told += 1
        self.assertGreater(told, 500)

    def test_each_number_of_hands(self):
        late = Book(take=("add", "look", "live"), move=("home", "look", "add", "set", "off"), batch=3, fails="wait")
        for hands in range(1, 21):
            for book in (Book(), APART, late, Book(take=("look", "add", "live"), batch=50), Book(batch=7)):
                found = crowd(book, hands)
                self.assertTrue(plainly_a_crowd(book, hands, found))
                self.assertIs(is_crowd(book, hands, found), True)

    def test_greatest_batches_and_most_hands(self):
        for take, move in itertools.product([("look", "add", "live"), ("add", "look", "live"), ("try", "live")],
                                            [("home", "look", "add", "set", "off"), ("add", "look", "set")]):
            book = Book(take=take, move=move, batch=50)
            self.assertIs(is_crowd(book, 20, crowd(book, 20)), True)

    def test_moves_that_take_off_where_they_have_added(self):
        rows = [row for row in ROWS["move"] if len(row) > 3 and "off" in row and "look" in row
                and row.index("set") < row.index("home")]
        self.assertGreater(len(rows), 5)
        for move, take, lift, batch, holds in itertools.product(rows, [("try", "live"), ("add", "look", "live")],
                                                                [(), ("set",), ("off", "set"), ("both",)], (1, 2, 5),
                                                                [(), ("move",), ("move", "lift")]):
            book = Book(move=move, take=take, lift=lift, batch=batch, holds=holds)
            for hands in (1, 2, 6):
                found = crowd(book, hands)
                self.assertIs(is_crowd(book, hands, found), plainly_a_crowd(book, hands, found))
                self.assertIs(is_crowd(book, hands, found), has_a_crowd(book, hands))

    def test_no_drawn_run_is_above_it_by_more(self):
        """Drawn runs of books whose moves go the usual way; their limits are set first."""
        for seed in range(150):
            draw = random.Random(seed)
            book = Book(take=draw.choice([("look", "add", "live"), ("add", "look", "live"), ("try", "live")]),
                        move=draw.choice([("home", "look", "add", "set", "off"), ("home", "add", "look", "set", "off"),
                                          ("home", "try", "set", "off"), ()]),
                        fails=draw.choice(["undo", "wait"]), batch=draw.choice([1, 2, 3]))
            run, hands = Run(book), draw.randrange(1, 4)
            run.do_all([("group", 0), ("group", 1), ("limit", 0, 6 * book.batch), ("limit", 1, book.batch)])
            for _ in range(120):
                deed = draw_deed(draw, run, wrong=0)
                if deed[0] != "limit" and (deed[0] in ("step", "group", "strike") or len(run.working()) < hands):
                    answer(run, deed)
                for group in (0, 1):
                    self.assertLessEqual(run.count(group) - run.limit_of(group), most_above(book, hands))


class TestJudging(Checks):

    def deeds(self, *more):
        """The hands 0 and 1 both look, and then both add to the group 1, whose limit is 1."""
        return [("group", 0), ("limit", 1, 1), ("take", 0, 1), ("take", 1, 1), ("step", 0), ("step", 0), ("step", 1),
                ("step", 1), ("step", 0), ("step", 1), *more]

    def judge(self, deeds, hands=2, **parts):
        return is_crowd(Book(take=("look", "add", "live"), **parts), hands, deeds)

    def test_in_words(self):
        self.assert_same([self.judge(self.deeds()), self.judge(self.deeds(), 1), self.judge(self.deeds(), 3)],
                         [True, False, False])
        self.assert_same([self.judge(self.deeds()[:-1]), self.judge(self.deeds(("step", 0), ("step", 0)))],
                         [False, True])
        # the top, without a limit, may be above all
        self.assert_same([self.judge(self.deeds(("limit", 0, 1))), self.judge([])], [False, False])

    def test_the_top_may_be_the_group(self):
        deeds = [("limit", 0, 1), ("take", 0, 0), ("take", 1, 0), ("step", 0), ("step", 1), ("step", 0), ("step", 1)]
        self.assert_same([self.judge(deeds), self.judge(deeds[:-1])], [True, False])

    def test_limits_come_ahead_of_the_first_take(self):
        deeds = self.deeds()
        for at in range(3, len(deeds) + 1):
            for more in (("limit", 0, None), ("limit", 1, 1), ("limit", 0, 100)):
                self.assert_same(self.judge(deeds[:at] + [more] + deeds[at:]), False)
        for at in (1, 2):
            for more in (("limit", 0, None), ("limit", 0, 100), ("limit", 0, 2)):
                self.assert_same(self.judge(deeds[:at] + [more] + deeds[at:]), True)
        self.assert_same(self.judge(deeds[:1] + [("limit", 1, 0)] + deeds[1:]), True)
        self.assert_same(self.judge(deeds[:2] + [("limit", 1, None)] + deeds[2:]), False)

    def test_multiples_of_the_batch_above_0(self):
        def filled(limit, batch):
            run = Run(Book(batch=batch))
            run.do_all([("group", 0), ("limit", 1, limit)])
            while run.count(1) < limit and run.things < 100:
                hand = 50 + run.things
                run.take(hand, 1)
                words_to_the_end(run, hand)
            return is_crowd(run.book, 1, run.log())

        self.assert_same([filled(limit, 3) for limit in (3, 6, 9)], [True, True, True])
        for limit in (2, 1, 0, -3, -(10 ** 39)):
            for value in ([("group", 0), ("limit", 1, limit)], [("limit", 0, limit)]):
                self.assert_same(is_crowd(Book(batch=3), 1, value), False)

    def test_a_full_group_whose_limit_is_no_multiple(self):
        for batch, limit, wanted in ((3, 4, False), (3, 3, True), (3, 2, False), (2, 4, True), (2, 3, False), (4, 4, True),
                                     (1, 4, True), (1, 3, True), (3, 6, False)):
            run = Run(Book(batch=batch))
            run.do_all([("group", 0), ("group", 0), ("limit", 1, limit)])
            for thing in range(4):
                run.take(0, 2)
                words_to_the_end(run, 0)
                run.move(1, thing, 1)
                words_to_the_end(run, 1)
            self.assertEqual(run.count(1), min(limit, 4))
            self.assert_same(is_crowd(run.book, 1, run.log()), wanted)

    def test_hands_at_work(self):
        found = crowd(APART, 6)
        self.assert_same([is_crowd(APART, hands, found) for hands in (5, 6, 7)], [False, True, False])
        # a full group is one for any number of hands that were not more
        full = crowd(Book(), 1)
        self.assert_same([is_crowd(Book(), hands, full) for hands in (1, 2, 20, 21, 10 ** 39)], [True] * 5)
        two = full + [("take", 0, 0), ("take", 1, 0)]
        self.assert_same([is_crowd(Book(), hands, two) for hands in (1, 2, 3)], [False, True, True])

    def test_one_thing_spoilt(self):
        draw = random.Random(33)
        seen = {True: 0, False: 0}
        for book, hands in itertools.product([APART, Book(), Book(take=("add", "look", "live"), batch=2, move=()),
                                              Book(move=("look", "add", "set"))], (1, 2, 5)):
            found = crowd(book, hands)
            for _ in range(25):
                at = draw.randrange(len(found))
                spoilt = draw.choice([found[:at] + found[at + 1:], found[:at] + [found[at]] + found[at:], found[:at],
                                      found[:at] + [("limit", draw.randrange(3), draw.randrange(9))] + found[at:],
                                      found[:at] + [("take", 77, 0)] + found[at:]])
                wanted = plainly_a_crowd(book, hands, spoilt)
                self.assertIs(is_crowd(book, hands, spoilt), wanted)
                seen[wanted] += 1
        self.assertGreater(min(seen.values()), 15)

    def test_values_of_other_kinds(self):
        for value in NO_LISTS_OF_DEEDS:
            self.assertIs(self.judge(value), False, value)
            if isinstance(value, list):
                self.assertIs(self.judge(self.deeds() + value), False, value)
                self.assertIs(self.judge(value + self.deeds()), False, value)
        for other in (iter(self.deeds()), dict(enumerate(self.deeds())), set(self.deeds()), [self.deeds()]):
            self.assertIs(self.judge(other), False)
        for deed in (("step", 7), ("step", 0, 0), ("group", 9), ("take", 0, 1), ("give", 0, 0), ("take", 100, 1)):
            self.assertIs(self.judge(self.deeds(deed)), False)

    def test_steps_that_wait_are_let(self):
        deeds = [("group", 0), ("limit", 1, 1), ("take", 0, 1), ("step", 0), ("step", 0), ("step", 0), ("take", 1, 1),
                 ("step", 1), ("step", 1)]
        self.assert_same([is_crowd(Book(fails="wait"), hands, deeds) for hands in (1, 2)], [True, True])
        self.assert_same(is_crowd(Book(), 1, deeds), False)


if __name__ == "__main__":
    unittest.main()
