"""Runs: what each deed does, in whatever way it is told, every error of each method, and which one comes first."""

import inspect
import unittest

from chargeways import runs
from chargeways.books import Book
from chargeways.errors import (AtWork, HasChildren, Held, InvalidGroup, InvalidHand, InvalidLimit, InvalidThing, IsTop,
                               MustSettle, NoRow, NoStock, NotLiving, NotStruck, NotYours, NoWalk, Struck, TooMany,
                               UnderWay)
from chargeways.runs import Run
from chargeways.trees import Tree
from common import METHODS, NO_HANDS, NO_INTEGERS, RunChecks, counts, run_on, shown, taken, words_to_the_end

PARAMETERS = {"count": ["group"], "limit_of": ["group"], "lives": ["thing"], "home": ["thing"], "stock": ["hand"],
              "walk": ["hand"], "working": [], "do": ["deed"], "do_all": ["deeds"], "log": [], "undo": [], "copy": [],
              "tried_by": ["action"], **dict(METHODS.values())}

LOOSE = Book(take=("add", "live"), holds=())

BATCH = Book(batch=3)


def thing_with(run, *begun):
    """The thing 0 in the group 1, with these walks begun on it, by the hands from 10 on."""
    taken(run, 0, 1)
    for at, (kind, *more) in enumerate(begun):
        run.do((kind, 10 + at, 0, *more))
    return run


class TestInterface(RunChecks):

    def test_class_and_methods_stand_in_their_file(self):
        self.assertEqual(Run.__module__, "chargeways.runs")
        self.assertIs(runs.Run, Run)
        for name in ("book", "tree", "at_rest", "things"):
            self.assertIsInstance(vars(Run)[name], property)
        for name in PARAMETERS:
            self.assertTrue(inspect.isfunction(vars(Run)[name]), name)

    def test_names_of_the_parameters(self):
        self.assertEqual(list(inspect.signature(Run).parameters), ["book"])
        for name, names in PARAMETERS.items():
            self.assertEqual(list(inspect.signature(getattr(Run(Book()), name)).parameters), names)
        self.assertIsNone(inspect.signature(Run.settle).parameters["other"].default)

    def test_by_name(self):
        run = run_on(BATCH, [0])
        taken(run, 0, 1)
        self.assert_same([run.count(group=1), run.limit_of(group=1), run.lives(thing=0), run.home(thing=0),
                          run.stock(hand=0), run.walk(hand=0)], [3, None, True, 1, (1, 2), None])

    def test_example_of_the_document(self):
        run = Run(Book(holds=()))
        self.assert_same([run.new_group(0), run.new_group(1), run.take(0, 2), run.walk(0)],
                         [1, 2, 0, ("take", 0, "try", 2)])
        self.assert_same([run.step(0), run.step(0), run.step(0), run.step(0), run.working(), run.home(0), run.count(1)],
                         ["try", "try", "try", "live", [], 2, 1])
        self.assert_same(run.do_all([("give", 0, 0), ("step", 0), ("strike", 2), ("lift", 1, 0), ("step", 1),
                                     ("step", 0), ("step", 0)]), [None, "home", None, None, "both", "off", "off"])
        self.assert_same([run.count(2), run.count(1), run.count(0), run.home(0), run.walk(0)],
                         [-1, 0, 1, 1, ("give", 0, "off", 0)])

    def test_begin(self):
        book = Book(fails="wait", batch=7)
        run = Run(book=book)
        self.assertEqual(run.book, book)
        self.assertEqual(run.tree, Tree())
        self.assert_same(shown(run), {
            "parents": [], "struck": [], "counts": [0], "limits": [None], "things": 0, "homes": [], "lives": [],
            "stocks": [None] * 100, "walks": [None] * 100, "working": [], "at_rest": True, "log": []})

    def test_runs_are_of_their_own(self):
        one, other = Run(Book()), Run(Book())
        one.new_group(0)
        one.take(0, 1)
        self.assertEqual((len(other.tree), other.things, other.log()), (1, 0, []))

    def test_lists_are_new(self):
        run = run_on(Book(), [0])
        run.take(0, 1)
        for call in (run.working, run.log):
            first = call()
            wanted = list(first)
            self.assertEqual(len(wanted) > 0, True)
            first.clear()
            self.assert_same(call(), wanted)

    def test_errors_of_what_is_told(self):
        run = run_on(BATCH, [0, 0])
        taken(run, 0, 1)
        run.take(1, 1)
        for value in NO_INTEGERS + [-1, 3, 200, 10 ** 30]:
            self.assert_raises(InvalidGroup, {"value": value}, run.count, value)
            self.assert_raises(InvalidGroup, {"value": value}, run.limit_of, value)
        for value in NO_INTEGERS + [-1, 2, 1000, 10 ** 30]:
            self.assert_raises(InvalidThing, {"value": value}, run.lives, value)
            self.assert_raises(InvalidThing, {"value": value}, run.home, value)
        for value in NO_HANDS:
            self.assert_raises(InvalidHand, {"value": value}, run.stock, value)
            self.assert_raises(InvalidHand, {"value": value}, run.walk, value)
        self.assert_raises(InvalidThing, {"value": 0}, Run(Book()).lives, 0)


class TestGroups(RunChecks):

    def test_new_groups(self):
        run = Run(Book())
        for number, parent in enumerate([0, 0, 1, 3, 2], start=1):
            self.assert_does(run, ("group", parent), number)
            self.assertEqual((run.count(number), run.limit_of(number)), (0, None))
        self.assertEqual(run.tree, Tree([0, 0, 1, 3, 2]))
        self.assertIs(type(run.tree), Tree)

    def test_trees_that_were_told_never_change(self):
        run = Run(Book())
        first = run.tree
        run.new_group(0)
        second = run.tree
        run.strike(1)
        self.assertEqual([first, second, run.tree], [Tree(), Tree([0]), Tree([0], [1])])

    def test_errors_of_new_groups(self):
        run = run_on(Book(), [0, 1])
        run.strike(2)
        for value in NO_INTEGERS + [-1, 3, 10 ** 30]:
            self.assert_raises(InvalidGroup, {"value": value}, run.new_group, value)
        self.assert_fault(run, InvalidGroup, {"value": 3}, ("group", 3))
        self.assert_fault(run, Struck, {"group": 2}, ("group", 2))

    def test_two_hundred_groups(self):
        run = run_on(Book(), list(range(199)))
        self.assertEqual(len(run.tree), 200)
        run.strike(199)
        self.assert_fault(run, TooMany, {"what": "groups", "limit": 200}, ("group", 0), ("group", 198))
        self.assert_fault(run, Struck, {"group": 199}, ("group", 199))
        self.assert_fault(run, InvalidGroup, {"value": 200}, ("group", 200))

    def test_limits(self):
        run = run_on(Book(), [0, 1])
        run.strike(2)
        for group in (0, 1, 2):
            for number in (0, 7, -1, 10 ** 39, -10 ** 39, None, 3):
                self.assert_does(run, ("limit", group, number), None)
                self.assert_same(run.limit_of(group), number)
        self.assertEqual([run.limit_of(group) for group in range(3)], [3, 3, 3])

    def test_errors_of_limits(self):
        run = run_on(Book(), [0], [(1, 4)])
        for value in NO_INTEGERS + [-1, 2]:
            self.assert_raises(InvalidGroup, {"value": value}, run.set_limit, value, 3)
            self.assert_raises(InvalidGroup, {"value": value}, run.set_limit, value, "x")
        for value in NO_INTEGERS:
            if value is not None:
                self.assert_raises(InvalidLimit, {"value": value}, run.set_limit, 1, value)
        self.assert_fault(run, InvalidGroup, {"value": -1}, ("limit", -1, 3))
        self.assertEqual((run.limit_of(1), len(run.log())), (4, 2))

    def test_strikes(self):
        run = run_on(Book(), [0, 1, 1, 0])
        self.assert_fault(run, IsTop, {}, ("strike", 0))
        self.assert_fault(run, HasChildren, {"group": 1}, ("strike", 1))
        self.assert_does(run, ("strike", 2), None)
        self.assert_fault(run, Struck, {"group": 2}, ("strike", 2))
        self.assert_fault(run, HasChildren, {"group": 1}, ("strike", 1))
        self.assert_does(run, ("strike", 3), None)
        self.assert_does(run, ("strike", 1), None)
        self.assertEqual(run.tree, Tree([0, 1, 1, 0], [1, 2, 3]))
        self.assert_fault(run, Struck, {"group": 1}, ("strike", 1))
        self.assert_fault(run, IsTop, {}, ("strike", 0))
        for value in NO_INTEGERS + [-1, 5]:
            self.assert_raises(InvalidGroup, {"value": value}, run.strike, value)
        self.assert_fault(run, InvalidGroup, {"value": 5}, ("strike", 5))

    def test_things_live_on_in_struck_groups(self):
        run = thing_with(run_on(Book(), [0]))
        run.strike(1)
        self.assertEqual((run.lives(0), run.home(0), counts(run)), (True, 1, [1, 1]))


class TestTakes(RunChecks):

    def test_things_are_numbered_in_the_sequence_of_their_takes(self):
        run = run_on(Book(), [0, 1])
        self.assert_does(run, ("take", 5, 2), 0)
        self.assert_does(run, ("take", 0, 0), 1)
        self.assert_does(run, ("take", 99, 2), 2)
        self.assertEqual((run.things, run.working(), run.at_rest), (3, [0, 5, 99], False))
        self.assert_same([run.walk(5), run.walk(0), run.walk(99), run.walk(1)],
                         [("take", 0, "try", 2), ("take", 1, "try", 0), ("take", 2, "try", 2), None])
        self.assert_same([run.lives(0), run.home(0)], [False, None])

    def test_a_take_lives_where_the_row_says(self):
        run = run_on(Book(take=("live", "add")), [0])
        run.take(0, 1)
        self.assert_same([run.lives(0), run.step(0), run.lives(0), run.home(0), run.walk(0), counts(run)],
                         [False, "live", True, 1, ("take", 0, "add", 1), [0, 0]])

    def test_errors_of_takes(self):
        run = run_on(Book(), [0, 0])
        run.strike(2)
        run.take(4, 1)
        for value in NO_HANDS:
            self.assert_raises(InvalidHand, {"value": value}, run.take, value, 1)
            self.assert_raises(InvalidHand, {"value": value}, run.take, value, None)
        for value in NO_INTEGERS + [-1, 3]:
            self.assert_raises(InvalidGroup, {"value": value}, run.take, 0, value)
            self.assert_raises(InvalidGroup, {"value": value}, run.take, 4, value)
        self.assert_fault(run, InvalidHand, {"value": 100}, ("take", 100, 1), ("take", 100, -1), ("take", 100, 2))
        self.assert_fault(run, InvalidGroup, {"value": 3}, ("take", 0, 3), ("take", 4, 3))
        self.assert_fault(run, AtWork, {"hand": 4}, ("take", 4, 1), ("take", 4, 2), ("take", 4, 0))
        self.assert_fault(run, Struck, {"group": 2}, ("take", 0, 2))

    def test_errors_of_takes_with_a_stock(self):
        run = run_on(BATCH, [0, 0, 0])
        taken(run, 0, 1)
        taken(run, 1, 2)
        run.strike(2)
        self.assert_fault(run, MustSettle, {"hand": 0}, ("take", 0, 0), ("take", 0, 3))
        self.assert_fault(run, Struck, {"group": 2}, ("take", 0, 2), ("take", 1, 2))
        self.assert_fault(run, MustSettle, {"hand": 1}, ("take", 1, 1))

    def test_a_thousand_things(self):
        run = run_on(Book(take=("live", "add"), batch=1), [0, 0])
        run.strike(2)
        for number in range(990):
            self.assertEqual(run.take(0, 1), number)
            self.assertEqual(run.step(0), "live")
            words_to_the_end(run, 0)
        for hand in range(1, 11):
            run.take(hand, 1)
        self.assertEqual(run.things, 1000)
        self.assert_fault(run, TooMany, {"what": "things", "limit": 1000}, ("take", 0, 1), ("take", 0, 0))
        self.assert_fault(run, AtWork, {"hand": 1}, ("take", 1, 1))
        self.assert_fault(run, Struck, {"group": 2}, ("take", 0, 2))
        self.assert_fault(run, InvalidHand, {"value": 100}, ("take", 100, 1))

    def test_a_thousand_things_with_a_stock(self):
        run = run_on(Book(batch=50), [0])
        for number in range(999):
            self.assertEqual(taken(run, 0, 1), number)
        self.assertEqual((run.things, run.stock(0)), (999, (1, 1)))
        self.assert_does(run, ("take", 1, 1), 999)
        self.assert_fault(run, TooMany, {"what": "things", "limit": 1000}, ("take", 0, 1))
        self.assert_fault(run, MustSettle, {"hand": 0}, ("take", 0, 0))


class TestGives(RunChecks):

    def test_begin(self):
        run = thing_with(run_on(Book(), [0]))
        self.assert_does(run, ("give", 3, 0), None)
        self.assert_same([run.walk(3), run.lives(0), run.working()], [("give", 0, "home", None), True, [3]])

    def test_errors_in_their_sequence(self):
        run = run_on(BATCH.with_holds(["give", "move"]), [0, 0])
        thing_with(run, ("move", 2))
        run.take(5, 1)
        for value in NO_HANDS:
            self.assert_raises(InvalidHand, {"value": value}, run.give, value, 0)
            self.assert_raises(InvalidHand, {"value": value}, run.give, value, None)
        for value in NO_INTEGERS + [-1, 2, 10 ** 30]:
            self.assert_raises(InvalidThing, {"value": value}, run.give, 3, value)
            self.assert_raises(InvalidThing, {"value": value}, run.give, 5, value)
        self.assert_fault(run, InvalidThing, {"value": 2}, ("give", 3, 2), ("give", 5, 2), ("give", 0, 2))
        self.assert_fault(run, AtWork, {"hand": 5}, ("give", 5, 0), ("give", 5, 1))
        self.assert_fault(run, MustSettle, {"hand": 0}, ("give", 0, 0), ("give", 0, 1))
        self.assert_fault(run, NotLiving, {"thing": 1}, ("give", 3, 1))
        self.assert_fault(run, Held, {"thing": 0, "kind": "move"}, ("give", 3, 0))

    def test_one_give_at_a_time(self):
        for holds in ([], ["give"], ["give", "move", "take", "lift"]):
            run = thing_with(run_on(Book(holds=holds), [0]), ("give",))
            self.assert_fault(run, UnderWay, {"thing": 0, "kind": "give"}, ("give", 0, 0))

    def test_a_thing_that_lives_no_more(self):
        run = thing_with(run_on(Book(give=("end", "home", "off")), [0]), ("give",))
        run.step(10)
        self.assert_same([run.lives(0), run.home(0), run.walk(10)], [False, 1, ("give", 0, "home", None)])
        self.assert_fault(run, NotLiving, {"thing": 0}, ("give", 0, 0))
        self.assertEqual(words_to_the_end(run, 10), ["home", "off", "off"])
        self.assert_fault(run, NotLiving, {"thing": 0}, ("give", 0, 0))

    def test_a_thing_that_never_lived(self):
        run = run_on(Book(), [0], [(1, 0)])
        run.take(0, 1)
        self.assert_fault(run, NotLiving, {"thing": 0}, ("give", 1, 0))
        self.assertEqual(words_to_the_end(run, 0), ["fail"])
        self.assert_fault(run, NotLiving, {"thing": 0}, ("give", 1, 0))


class TestMoves(RunChecks):

    def test_begin(self):
        run = thing_with(run_on(Book(), [0, 0]))
        self.assert_does(run, ("move", 3, 0, 2), None)
        self.assert_same([run.walk(3), run.home(0)], [("move", 0, "home", None), 1])
        run = thing_with(run_on(Book(move=("try", "set")), [0, 0]))
        for group in (2, 1, 0):
            run.move(3, 0, group)
            self.assert_same(run.walk(3), ("move", 0, "try", group))
            run.undo()

    def test_errors_in_their_sequence(self):
        run = run_on(BATCH.with_holds(["move", "give"]), [0, 0, 0])
        run.strike(3)
        thing_with(run, ("give",))
        run.take(5, 1)
        for value in NO_HANDS:
            self.assert_raises(InvalidHand, {"value": value}, run.move, value, 0, 2)
            self.assert_raises(InvalidHand, {"value": value}, run.move, value, None, None)
        for value in NO_INTEGERS + [-1, 2, 10 ** 30]:
            self.assert_raises(InvalidThing, {"value": value}, run.move, 3, value, 2)
            self.assert_raises(InvalidThing, {"value": value}, run.move, 5, value, None)
        for value in NO_INTEGERS + [-1, 4, 10 ** 30]:
            self.assert_raises(InvalidGroup, {"value": value}, run.move, 3, 0, value)
            self.assert_raises(InvalidGroup, {"value": value}, run.move, 5, 1, value)
        self.assert_fault(run, InvalidGroup, {"value": 4}, ("move", 5, 0, 4), ("move", 0, 1, 4))
        self.assert_fault(run, AtWork, {"hand": 5}, ("move", 5, 0, 2), ("move", 5, 1, 3))
        self.assert_fault(run, MustSettle, {"hand": 0}, ("move", 0, 0, 2), ("move", 0, 1, 3))
        self.assert_fault(run, NotLiving, {"thing": 1}, ("move", 3, 1, 2), ("move", 3, 1, 3))
        self.assert_fault(run, Struck, {"group": 3}, ("move", 3, 0, 3))
        self.assert_fault(run, Held, {"thing": 0, "kind": "give"}, ("move", 3, 0, 2), ("move", 3, 0, 1))

    def test_without_a_row(self):
        run = run_on(Book(move=(), batch=2), [0, 0])
        run.strike(2)
        thing_with(run)
        run.take(5, 1)
        self.assert_fault(run, NoRow, {"kind": "move"}, ("move", 3, 0, 1), ("move", 3, 1, 1), ("move", 3, 0, 2),
                          ("move", 3, 1, 2))
        self.assert_fault(run, AtWork, {"hand": 5}, ("move", 5, 0, 1))
        self.assert_fault(run, MustSettle, {"hand": 0}, ("move", 0, 0, 1))
        self.assert_fault(run, InvalidGroup, {"value": 3}, ("move", 3, 0, 3))

    def test_one_move_at_a_time(self):
        for holds in ([], ["move"], ["give", "move", "take", "lift"]):
            run = thing_with(run_on(Book(holds=holds), [0, 0, 0]), ("move", 2))
            run.strike(3)
            self.assert_fault(run, UnderWay, {"thing": 0, "kind": "move"}, ("move", 0, 0, 1), ("move", 0, 0, 2))
            self.assert_fault(run, Struck, {"group": 3}, ("move", 0, 0, 3))


class TestLifts(RunChecks):

    def test_begin(self):
        run = thing_with(run_on(Book(lift=("off", "set")), [0]))
        run.strike(1)
        self.assert_does(run, ("lift", 3, 0), None)
        self.assert_same(run.walk(3), ("lift", 0, "off", 1))
        run = thing_with(run_on(Book(lift=("set",)), [0]))
        run.strike(1)
        run.lift(3, 0)
        self.assert_same(run.walk(3), ("lift", 0, "set", None))

    def test_errors_in_their_sequence(self):
        run = thing_with(run_on(BATCH.with_holds(["lift", "give"]), [0]))
        run.take(5, 1)
        for value in NO_HANDS:
            self.assert_raises(InvalidHand, {"value": value}, run.lift, value, 0)
            self.assert_raises(InvalidHand, {"value": value}, run.lift, value, None)
        for value in NO_INTEGERS + [-1, 2, 10 ** 30]:
            self.assert_raises(InvalidThing, {"value": value}, run.lift, 3, value)
            self.assert_raises(InvalidThing, {"value": value}, run.lift, 5, value)
        self.assert_fault(run, AtWork, {"hand": 5}, ("lift", 5, 0), ("lift", 5, 1))
        self.assert_fault(run, MustSettle, {"hand": 0}, ("lift", 0, 0), ("lift", 0, 1))
        self.assert_fault(run, NotLiving, {"thing": 1}, ("lift", 3, 1))
        self.assert_fault(run, NotStruck, {"group": 1}, ("lift", 3, 0))
        run.give(7, 0)
        self.assert_fault(run, NotStruck, {"group": 1}, ("lift", 3, 0))
        run.strike(1)
        self.assert_fault(run, Held, {"thing": 0, "kind": "give"}, ("lift", 3, 0))
        self.assert_fault(run, InvalidThing, {"value": 2}, ("lift", 3, 2))
        self.assert_fault(run, InvalidHand, {"value": -1}, ("lift", -1, 2))

    def test_a_home_at_the_top_is_never_struck(self):
        run = run_on(Book(), [0])
        taken(run, 0, 0)
        run.strike(1)
        self.assert_fault(run, NotStruck, {"group": 0}, ("lift", 0, 0))

    def test_a_parent_may_be_struck_as_well(self):
        run = run_on(Book(), [0, 1])
        taken(run, 0, 2)
        run.strike(2)
        run.strike(1)
        for home in (1, 0):
            self.assert_does(run, ("lift", 3, 0), None)
            self.assertEqual(words_to_the_end(run, 3), ["both"])
            self.assertEqual(run.home(0), home)
        self.assertEqual(counts(run), [1, 0, 0])

    def test_without_a_row(self):
        run = thing_with(run_on(Book(lift=(), batch=2), [0]))
        run.take(5, 1)
        self.assert_fault(run, NoRow, {"kind": "lift"}, ("lift", 3, 0), ("lift", 3, 1))
        run.strike(1)
        self.assert_fault(run, NoRow, {"kind": "lift"}, ("lift", 3, 0), ("lift", 3, 1))
        self.assert_fault(run, AtWork, {"hand": 5}, ("lift", 5, 0))
        self.assert_fault(run, MustSettle, {"hand": 0}, ("lift", 0, 0))
        self.assert_fault(run, InvalidThing, {"value": 2}, ("lift", 3, 2))

    def test_one_lift_at_a_time(self):
        for holds in ([], ["lift"], ["give", "move", "take", "lift"]):
            run = thing_with(run_on(Book(holds=holds), [0]))
            run.strike(1)
            run.lift(3, 0)
            self.assert_fault(run, UnderWay, {"thing": 0, "kind": "lift"}, ("lift", 0, 0))

    def test_not_struck_comes_ahead_of_under_way(self):
        run = thing_with(run_on(Book(holds=()), [0, 0]), ("move", 2))
        run.strike(1)
        run.lift(3, 0)
        words_to_the_end(run, 10)
        self.assertEqual(run.home(0), 2)
        self.assert_fault(run, NotStruck, {"group": 2}, ("lift", 0, 0))
        run.strike(2)
        self.assert_fault(run, UnderWay, {"thing": 0, "kind": "lift"}, ("lift", 0, 0))


class TestSettles(RunChecks):

    def test_its_own_stock(self):
        run = run_on(BATCH, [0])
        taken(run, 7, 1)
        self.assert_does(run, ("settle", 7, 7), None)
        self.assert_same([run.stock(7), run.walk(7), counts(run)], [None, ("settle", None, "off", 1), [3, 3]])

    def test_without_other_it_is_its_own_one_and_the_log_tells_it(self):
        run = run_on(BATCH, [0])
        taken(run, 7, 1)
        for call in (lambda: run.settle(7), lambda: run.settle(7, None), lambda: run.settle(hand=7),
                     lambda: run.settle(hand=7, other=None), lambda: run.settle(7, 7)):
            self.assertIsNone(call())
            self.assert_same(run.log()[-1], ("settle", 7, 7))
            run.undo()
        self.assert_same(run.stock(7), (1, 2))

    def test_of_another_hand(self):
        run = run_on(BATCH, [0])
        taken(run, 7, 1)
        run.strike(1)
        self.assert_does(run, ("settle", 3, 7), None)
        self.assert_same([run.stock(7), run.stock(3), run.walk(7), run.walk(3)],
                         [None, None, None, ("settle", None, "off", 1)])

    def test_errors_in_their_sequence(self):
        run = run_on(BATCH, [0, 0])
        taken(run, 7, 1)
        taken(run, 8, 2)
        run.take(5, 1)
        for value in NO_HANDS:
            self.assert_raises(InvalidHand, {"value": value}, run.settle, value)
            self.assert_raises(InvalidHand, {"value": value}, run.settle, value, None)
            self.assert_raises(InvalidHand, {"value": value}, run.settle, value, "x")
            if value is not None:
                self.assert_raises(InvalidHand, {"value": value}, run.settle, 7, value)
                self.assert_raises(InvalidHand, {"value": value}, run.settle, 5, value)
        self.assert_fault(run, InvalidHand, {"value": 100}, ("settle", 100, -1), ("settle", 7, 100), ("settle", 5, 100))
        self.assert_fault(run, AtWork, {"hand": 5}, ("settle", 5, 5), ("settle", 5, 7), ("settle", 5, 9))
        self.assert_fault(run, MustSettle, {"hand": 7}, ("settle", 7, 8), ("settle", 7, 9), ("settle", 7, 5))
        self.assert_fault(run, NoStock, {"hand": 9}, ("settle", 0, 9), ("settle", 9, 9))
        self.assert_fault(run, NoStock, {"hand": 5}, ("settle", 0, 5))
        self.assert_fault(run, NotYours, {"hand": 7}, ("settle", 0, 7))
        self.assert_raises(NoStock, {"hand": 0}, run.settle, 0)
        run.strike(1)
        self.assert_fault(run, MustSettle, {"hand": 8}, ("settle", 8, 7))
        self.assert_fault(run, NotYours, {"hand": 8}, ("settle", 0, 8))
        self.assert_does(run, ("settle", 0, 7), None)

    def test_settles_is_false(self):
        run = run_on(Book(batch=2, settles=False), [0])
        taken(run, 7, 1)
        self.assert_fault(run, NotYours, {"hand": 7}, ("settle", 0, 7))
        run.strike(1)
        self.assert_fault(run, NotYours, {"hand": 7}, ("settle", 0, 7))
        self.assert_does(run, ("settle", 7, 7), None)


class TestSteps(RunChecks):

    def test_errors(self):
        run = run_on(BATCH, [0])
        taken(run, 0, 1)
        for value in NO_HANDS:
            self.assert_raises(InvalidHand, {"value": value}, run.step, value)
        self.assert_fault(run, InvalidHand, {"value": 100}, ("step", 100))
        self.assert_fault(run, NoWalk, {"hand": 0}, ("step", 0))
        self.assert_fault(run, NoWalk, {"hand": 99}, ("step", 99))
        run.take(0, 1)
        self.assert_fault(run, NoWalk, {"hand": 0}, ("step", 0))

    def test_steps_in_each_way(self):
        run = run_on(Book(), [0])
        run.take(3, 1)
        for word in ("try", "try", "live"):
            self.assert_does(run, ("step", 3), word)
        self.assert_fault(run, NoWalk, {"hand": 3}, ("step", 3))

    def test_hands_step_one_between_the_deeds_of_another(self):
        run = run_on(LOOSE, [0, 0])
        run.take(0, 1)
        run.take(1, 2)
        self.assertEqual([run.step(hand) for hand in (1, 0, 0, 1, 0, 1)], ["add", "add", "add", "add", "live", "live"])
        self.assertEqual((counts(run), run.home(0), run.home(1), run.at_rest), ([2, 1, 1], 1, 2, True))


if __name__ == "__main__":
    unittest.main()
