"""Audits: what is due and charged, what is spare, and how things and stocks are seen from each group."""

import inspect
import unittest

from chargeways import audits
from chargeways.audits import charged, due, gap, sight, spare, wrong_groups
from chargeways.books import Book
from chargeways.errors import InvalidGroup, InvalidUnit
from chargeways.runs import Run
from common import NO_INTEGERS, Checks, counts, run_on, taken, words_to_the_end

# 0 - 1 - 2 - 3 and 0 - 4 - 5, 1 - 6
PARENTS = [0, 1, 2, 0, 4, 1]

FREE = {"take": ("live", "add"), "holds": ()}

NAMES = {"due": ["run", "group"], "gap": ["run", "group"], "wrong_groups": ["run"], "spare": ["run", "group"],
         "charged": ["run", "group", "unit"], "sight": ["run", "group", "unit"]}

NO_UNITS = [None, True, False, -1, 2, 1000, 10 ** 30, "", "stock", "0", b"x", [], (), {}, object(), len, (0,), [0],
            ("stock",), ("stock", 1), ("stock", 99), ("stock", 100), ("stock", -1), ("stock", True), ("stock", None),
            ("stock", "0"), ("stock", 0, 0), ["stock", 0], ("Stock", 0), ("thing", 0), (0, "stock"), (None, 0),
            (b"stock", 0), (("stock",), 0), ("stock", (0,)), ("stock", [0])]

NO_GROUPS = NO_INTEGERS + [-1, 7, 200, 10 ** 30]


def all_due(run):
    return [due(run, group) for group in range(len(run.tree))]


def all_charged(run, unit):
    return [charged(run, group, unit) for group in range(len(run.tree))]


def all_spare(run):
    return [spare(run, group) for group in range(len(run.tree))]


def seen(struck=0, life=0, home=0, take=(), give=(), move=(), lift=()):
    """A state, by the names of its parts."""
    return (struck, life, home, take, give, move, lift, ())


class AuditChecks(Checks):

    def assert_sights(self, run, group, unit, hand, *wanted):
        """These are the sights now and behind each of the hand's steps, until its walk is over."""
        found = [sight(run, group, unit)]
        while run.walk(hand) is not None:
            run.step(hand)
            found.append(sight(run, group, unit))
        self.assert_same(found, list(wanted))


class TestInterface(AuditChecks):

    def test_functions_and_their_parameters(self):
        for name, names in NAMES.items():
            found = getattr(audits, name)
            self.assertEqual(found.__module__, "chargeways.audits")
            self.assertEqual(list(inspect.signature(found).parameters), names)

    def test_by_name(self):
        run = run_on(Book(batch=2), [0])
        taken(run, 0, 1)
        self.assert_same([due(group=1, run=run), gap(group=1, run=run), wrong_groups(run=run), spare(group=1, run=run),
                          charged(unit=("stock", 0), group=1, run=run), sight(unit=0, run=run, group=1)],
                         [1, 1, [], 0, 1, seen(life=1, home=2)])

    def test_nothing_changes(self):
        run = run_on(Book(batch=2), [0])
        taken(run, 0, 1)
        run.give(1, 0)
        log = run.log()
        for _ in range(2):
            self.assert_same([due(run, 0), gap(run, 0), wrong_groups(run), spare(run, 0), charged(run, 0, 0),
                              sight(run, 1, 0)], [1, 1, [], 0, 1, seen(life=1, home=2, give=(0, -1))])
        self.assertEqual(run.log(), log)
        first = wrong_groups(run_on(Book()))
        first.append(1)
        self.assertEqual(wrong_groups(run_on(Book())), [])

    def test_no_groups(self):
        run = run_on(Book(), PARENTS)
        run.take(0, 1)
        for value in NO_GROUPS:
            for call in (due, gap, spare):
                self.assert_raises(InvalidGroup, {"value": value}, call, run, value)
            for call in (charged, sight):
                self.assert_raises(InvalidGroup, {"value": value}, call, run, value, 0)
                self.assert_raises(InvalidGroup, {"value": value}, call, run, value, None)

    def test_the_top_is_seen_from_nowhere(self):
        run = run_on(Book(), PARENTS)
        run.take(0, 1)
        self.assert_raises(InvalidGroup, {"value": 0}, sight, run, 0, 0)
        self.assert_raises(InvalidGroup, {"value": 0}, sight, run, 0, "x")
        self.assertEqual(charged(run, 0, 0), 0)

    def test_no_units(self):
        run = run_on(Book(batch=2), PARENTS)
        taken(run, 0, 1)
        run.take(1, 1)
        for value in NO_UNITS:
            self.assert_raises(InvalidUnit, {"value": value}, charged, run, 1, value)
            self.assert_raises(InvalidUnit, {"value": value}, sight, run, 1, value)
        self.assert_same([charged(run, 1, ("stock", 0)), charged(run, 1, 1)], [1, 0])
        run.settle(0)
        for call in (charged, sight):
            self.assert_raises(InvalidUnit, {"value": ("stock", 0)}, call, run, 1, ("stock", 0))
        self.assert_raises(InvalidUnit, {"value": 0}, charged, Run(Book()), 0, 0)


class TestDues(AuditChecks):

    def test_things_are_due_at_their_home_and_above(self):
        run = run_on(Book(), PARENTS)
        for home in (3, 3, 2, 5, 0):
            taken(run, 0, home)
        self.assert_same(all_due(run), [5, 3, 3, 2, 1, 1, 0])

    def test_only_things_that_live(self):
        run = run_on(Book(**FREE), PARENTS, [])
        run.take(0, 3)
        self.assertEqual(all_due(run), [0] * 7)
        run.step(0)
        self.assertEqual(all_due(run), [1, 1, 1, 1, 0, 0, 0])
        words_to_the_end(run, 0)
        run.give(0, 0)
        self.assertEqual([(run.step(0), due(run, 2)) for _ in range(6)],
                         [("home", 1)] + [("off", 1)] * 4 + [("end", 0)])
        self.assertEqual(all_due(run), [0] * 7)

    def test_things_that_never_live(self):
        run = run_on(Book(fails="leave"), PARENTS, [(0, 0)])
        taken(run, 0, 3)
        self.assert_same((all_due(run), counts(run)), ([0] * 7, [0, 1, 1, 1, 0, 0, 0]))

    def test_homes_that_are_set_and_struck(self):
        run = run_on(Book(move=("set",), lift=("set",), **FREE), PARENTS)
        taken(run, 0, 3)
        run.do_all([("move", 0, 0, 5), ("step", 0)])
        self.assertEqual(all_due(run), [1, 0, 0, 0, 1, 1, 0])
        run.strike(5)
        self.assertEqual(all_due(run), [1, 0, 0, 0, 1, 1, 0])
        run.do_all([("lift", 0, 0), ("step", 0)])
        self.assertEqual(all_due(run), [1, 0, 0, 0, 1, 0, 0])

    def test_things_by_stock(self):
        run = run_on(Book(batch=3), PARENTS)
        taken(run, 0, 2)
        self.assertEqual(all_due(run), [1, 1, 1, 0, 0, 0, 0])
        run.take(0, 2)
        self.assertEqual(all_due(run), [2, 2, 2, 0, 0, 0, 0])

    def test_gaps(self):
        run = run_on(Book(batch=3, move=("set",), holds=()), PARENTS)
        taken(run, 0, 2)
        run.do_all([("move", 1, 0, 4), ("step", 1)])
        self.assert_same([gap(run, group) for group in range(7)], [2, 3, 3, 0, -1, 0, 0])


class TestWrongGroups(AuditChecks):

    def test_none_unless_the_run_is_at_rest(self):
        run = run_on(Book(take=("live", "add"), give=("end",), holds=()), PARENTS)
        taken(run, 0, 3)
        run.give(0, 0)
        self.assert_same(wrong_groups(run), [])
        run.step(0)
        self.assert_same(wrong_groups(run), [0, 1, 2, 3])
        run.take(4, 3)
        self.assert_same(wrong_groups(run), [])
        words_to_the_end(run, 4)
        self.assert_same(wrong_groups(run), [0, 1, 2, 3])

    def test_none_while_there_is_a_stock(self):
        run = run_on(Book(batch=2, give=("end",)), PARENTS)
        taken(run, 0, 3)
        run.give(1, 0)
        run.step(1)
        self.assert_same([wrong_groups(run), gap(run, 3), run.working()], [[], 2, []])
        run.settle(0)
        words_to_the_end(run, 0)
        self.assert_same(wrong_groups(run), [0, 1, 2, 3])

    def test_too_few(self):
        run = run_on(Book(take=("look", "add", "live"), lift=("off",), holds=()), PARENTS)
        taken(run, 0, 3)
        run.strike(3)
        run.do_all([("lift", 0, 0), ("step", 0)])
        self.assert_same(wrong_groups(run), [3])
        run.do_all([("lift", 0, 0), ("step", 0)])
        self.assert_same((wrong_groups(run), gap(run, 3)), ([3], -2))

    def test_the_top_alone(self):
        run = run_on(Book(take=("live", "add"), give=("end",)))
        self.assert_same(wrong_groups(run), [])
        taken(run, 0, 0)
        self.assert_same(wrong_groups(run), [])
        run.give(0, 0)
        run.step(0)
        self.assert_same(wrong_groups(run), [0])

    def test_none_where_all_is_right(self):
        run = run_on(Book(), PARENTS)
        for home in (3, 5, 0):
            taken(run, 0, home)
        run.move(0, 1, 6)
        words_to_the_end(run, 0)
        self.assert_same(wrong_groups(run), [])

    def test_a_move_that_sets_alone(self):
        run = run_on(Book(move=("set",)), PARENTS)
        taken(run, 0, 3)
        run.do_all([("move", 0, 0, 6), ("step", 0)])
        self.assert_same(wrong_groups(run), [2, 3, 6])


class TestCharges(AuditChecks):

    def test_a_take(self):
        for batch in (1, 4):
            run = run_on(Book(batch=batch), PARENTS)
            run.take(0, 2)
            self.assert_same(all_charged(run, 0), [0] * 7)
            run.step(0)
            self.assert_same((all_charged(run, 0), all_spare(run)),
                             ([0, 0, 1, 0, 0, 0, 0], [0, 0, batch - 1, 0, 0, 0, 0]))
            run.step(0)
            run.step(0)
            self.assert_same((all_charged(run, 0), all_spare(run)), ([1, 1, 1, 0, 0, 0, 0], [batch - 1] * 3 + [0] * 4))
            run.step(0)
            self.assert_same((all_charged(run, 0), all_spare(run)), ([1, 1, 1, 0, 0, 0, 0], [0] * 7))

    def test_a_take_that_is_undone(self):
        run = run_on(Book(batch=4), PARENTS, [(0, 3)])
        run.take(0, 2)
        self.assertEqual([run.step(0) for _ in range(3)], ["try", "try", "fail"])
        self.assert_same((all_charged(run, 0), all_spare(run)), ([0, 1, 1, 0, 0, 0, 0], [0, 3, 3, 0, 0, 0, 0]))
        run.step(0)
        self.assert_same((all_charged(run, 0), all_spare(run)), ([0, 1, 0, 0, 0, 0, 0], [0, 3, 0, 0, 0, 0, 0]))
        run.step(0)
        self.assert_same((all_charged(run, 0), all_spare(run), run.at_rest), ([0] * 7, [0] * 7, True))

    def test_a_take_that_is_left(self):
        run = run_on(Book(batch=4, fails="leave"), PARENTS, [(0, 3)])
        taken(run, 0, 2)
        self.assert_same((all_charged(run, 0), all_spare(run), wrong_groups(run)),
                         ([0, 1, 1, 0, 0, 0, 0], [0, 3, 3, 0, 0, 0, 0], [1, 2]))

    def test_stocks_and_what_comes_of_them(self):
        run = run_on(Book(batch=4), PARENTS)
        taken(run, 9, 2)
        self.assert_same(all_charged(run, ("stock", 9)), [3, 3, 3, 0, 0, 0, 0])
        run.take(9, 2)
        self.assert_same((all_charged(run, ("stock", 9)), all_charged(run, 1)),
                         ([2, 2, 2, 0, 0, 0, 0], [1, 1, 1, 0, 0, 0, 0]))
        run.settle(9)
        self.assert_same(all_spare(run), [2, 2, 2, 0, 0, 0, 0])
        run.step(9)
        self.assert_same(all_spare(run), [2, 2, 0, 0, 0, 0, 0])
        words_to_the_end(run, 9)
        self.assert_same((all_spare(run), counts(run)), ([0] * 7, [2, 2, 2, 0, 0, 0, 0]))

    def test_settles_and_takes_together(self):
        run = run_on(Book(batch=3), PARENTS)
        taken(run, 0, 3)
        taken(run, 1, 2)
        run.do_all([("settle", 0, 0), ("step", 0), ("settle", 1, 1), ("take", 2, 2), ("step", 2)])
        self.assert_same(all_spare(run), [4, 4, 6, 0, 0, 0, 0])

    def test_gives(self):
        run = run_on(Book(**FREE), PARENTS)
        taken(run, 0, 3)
        run.give(0, 0)
        self.assertEqual([(run.step(0), charged(run, 2, 0)) for _ in range(6)],
                         [("home", 1), ("off", 1), ("off", 0), ("off", 0), ("off", 0), ("end", 0)])
        self.assert_same(all_charged(run, 0), [0] * 7)

    def test_moves(self):
        run = run_on(Book(**FREE), PARENTS)
        taken(run, 0, 3)
        run.move(0, 0, 4)
        self.assertEqual([run.step(0) for _ in range(3)], ["home", "try", "try"])
        self.assert_same(all_charged(run, 0), [2, 1, 1, 1, 1, 0, 0])
        words_to_the_end(run, 0)
        self.assert_same(all_charged(run, 0), [1, 0, 0, 0, 1, 0, 0])

    def test_moves_that_are_undone_and_left(self):
        for fails, end in (("undo", [1, 0, 0, 0, 1, 1, 0]), ("leave", [1, 0, 1, 1, 1, 1, 0])):
            run = run_on(Book(fails=fails, **FREE), PARENTS)
            taken(run, 0, 5)
            run.set_limit(1, 0)
            run.move(0, 0, 3)
            words_to_the_end(run, 0)
            self.assert_same(all_charged(run, 0), end)
            self.assert_same(all_spare(run), [0] * 7)

    def test_lifts(self):
        for row in (("off",), ("set", "off"), ("off", "set"), ("both",)):
            run = run_on(Book(lift=row, **FREE), PARENTS)
            taken(run, 0, 3)
            run.strike(3)
            run.lift(0, 0)
            words_to_the_end(run, 0)
            self.assert_same(all_charged(run, 0), [1, 1, 1, 0, 0, 0, 0])

    def test_charges_below_zero(self):
        run = run_on(Book(holds=()), PARENTS)
        taken(run, 0, 3)
        run.strike(3)
        run.do_all([("give", 1, 0), ("step", 1), ("lift", 2, 0), ("step", 2)])
        words_to_the_end(run, 1)
        self.assert_same(all_charged(run, 0), [0, 0, 0, -1, 0, 0, 0])

    def test_each_thing_by_itself(self):
        run = run_on(Book(), PARENTS)
        taken(run, 0, 3)
        taken(run, 0, 2)
        run.give(0, 0)
        words_to_the_end(run, 0)
        self.assert_same((all_charged(run, 0), all_charged(run, 1)), ([0] * 7, [1, 1, 1, 0, 0, 0, 0]))


class TestSightsOfTakes(AuditChecks):

    def test_from_below_here_and_out(self):
        for group, side, home in ((1, 1, 1), (2, 1, 2)):
            run = run_on(Book(), PARENTS)
            run.take(0, 2)
            first = seen(take=(0, 1))
            self.assert_sights(run, group, 0, 0, first, first if group == 1 else seen(take=(1, side)),
                               seen(take=(1, 1)), seen(take=(1, 1)), seen(life=1, home=home))
        for group in (3, 4, 6):
            run = run_on(Book(), PARENTS)
            run.take(0, 2)
            self.assert_sights(run, group, 0, 0, *[seen(take=(0, 0))] * 3, seen(take=(1, 0)), seen(life=1, home=3))

    def test_words_behind_live(self):
        run = run_on(Book(take=("look", "live", "add")), PARENTS)
        run.take(0, 2)
        self.assert_sights(run, 1, 0, 0, seen(take=(0, 1)), seen(take=(0, 1)), seen(take=(1, 1)), seen(take=(1, 1)),
                           seen(life=1, home=1, take=(2, 1)), seen(life=1, home=1, take=(2, 1)),
                           seen(life=1, home=1), seen(life=1, home=1))
        run.take(0, 2)
        self.assert_sights(run, 4, 1, 0, *[seen(take=(0, 0))] * 3, seen(take=(1, 0)),
                           *[seen(life=1, home=3, take=(2, 0))] * 3, seen(life=1, home=3))

    def test_a_struck_group(self):
        run = run_on(Book(), PARENTS)
        run.take(0, 3)
        run.strike(3)
        self.assert_same([sight(run, group, 0) for group in (3, 2, 4)],
                         [seen(struck=1, take=(0, 1)), seen(take=(0, 1)), seen(take=(0, 0))])

    def failed(self, group, fails, row=("try", "live")):
        """A take into 3 whose test has failed at this group."""
        run = run_on(Book(take=row, fails=fails), PARENTS, [(group, 0)])
        run.take(0, 3)
        while run.step(0) != "fail":
            pass
        return run

    def test_undo(self):
        run = self.failed(0, "undo")
        undoing, gone = seen(take=(-1, 0)), seen(life=3)
        for group, many in ((3, 1), (2, 2), (1, 3)):
            self.assertEqual([sight(run.copy(), group, 0)], [undoing])
            self.assert_sights(run.copy(), group, 0, 0, *[undoing] * many, *[gone] * (4 - many))
        for group in (4, 5, 6):
            self.assert_sights(run.copy(), group, 0, 0, *[gone] * 4)
        run = self.failed(2, "undo")
        self.assert_same([sight(run, group, 0) for group in (3, 2, 1)], [undoing, gone, gone])
        run = self.failed(2, "undo", ("add", "look", "live"))
        self.assert_same([sight(run, group, 0) for group in (3, 2, 1, 4)], [undoing, undoing, undoing, gone])
        run = self.failed(2, "undo", ("look", "add", "live"))
        self.assert_same([sight(run, group, 0) for group in (3, 2, 1, 4)], [gone] * 4)

    def test_leave(self):
        for group in (3, 1, 0):
            run = self.failed(group, "leave")
            self.assert_same([sight(run, seen_from, 0) for seen_from in range(1, 7)], [seen(life=3)] * 6)

    def test_wait(self):
        run = run_on(Book(fails="wait"), PARENTS, [(1, 0)])
        run.take(0, 3)
        self.assertEqual([run.step(0) for _ in range(4)], ["try", "try", "wait", "wait"])
        self.assert_same([sight(run, group, 0) for group in range(1, 7)],
                         [seen(take=(0, 1)), seen(take=(1, 1)), seen(take=(1, 1)), *[seen(take=(0, 0))] * 3])


class TestSightsOfGives(AuditChecks):

    def given(self, row, home=2):
        run = run_on(Book(give=row, **FREE), PARENTS)
        taken(run, 0, home)
        run.give(0, 0)
        return run

    def test_home_off_end(self):
        run = self.given(("home", "off", "end"))
        self.assert_sights(run.copy(), 1, 0, 0, seen(0, 1, 1, give=(0, -1)), seen(0, 1, 1, give=(1, 1)),
                           seen(0, 1, 1, give=(1, 1)), *[seen(0, 1, 1, give=(2, 1))] * 2, seen(0, 3, 1))
        self.assert_sights(run.copy(), 2, 0, 0, seen(0, 1, 2, give=(0, -1)), seen(0, 1, 2, give=(1, 1)),
                           *[seen(0, 1, 2, give=(2, 1))] * 3, seen(0, 3, 2))
        self.assert_sights(run.copy(), 6, 0, 0, seen(0, 1, 3, give=(0, -1)), *[seen(0, 1, 3, give=(1, 0))] * 3,
                           seen(0, 1, 3, give=(2, 0)), seen(0, 3, 3))

    def test_it_is_shown_no_more_when_the_last_word_has_passed(self):
        run = self.given(("home", "end", "off"))
        self.assert_sights(run.copy(), 2, 0, 0, seen(0, 1, 2, give=(0, -1)), seen(0, 1, 2, give=(1, 1)),
                           seen(0, 3, 2, give=(2, 1)), *[seen(0, 3, 2)] * 3)
        self.assert_sights(run.copy(), 4, 0, 0, seen(0, 1, 3, give=(0, -1)), seen(0, 1, 3, give=(1, 0)),
                           *[seen(0, 3, 3, give=(2, 0))] * 3, seen(0, 3, 3))

    def test_without_home(self):
        self.assert_sights(self.given(("end",)), 2, 0, 0, seen(0, 1, 2, give=(0, -1)), seen(0, 3, 2))

    def test_the_remembered_home_is_told_and_not_the_one_of_now(self):
        run = run_on(Book(move=("set",), **FREE), PARENTS)
        taken(run, 0, 2)
        run.do_all([("give", 0, 0), ("step", 0), ("move", 1, 0, 5)])
        self.assert_same([sight(run, 1, 0), sight(run, 5, 0)],
                         [seen(0, 1, 1, give=(1, 1), move=(0, -1, 0)), seen(0, 1, 3, give=(1, 0), move=(0, -1, 1))])
        run.step(1)
        self.assert_same([sight(run, 1, 0), sight(run, 5, 0)], [seen(0, 1, 3, give=(1, 1)), seen(0, 1, 2, give=(1, 0))])


class TestSightsOfMoves(AuditChecks):

    def moved(self, home, target, limits=(), **parts):
        run = run_on(Book(**{**FREE, **parts}), PARENTS)
        taken(run, 0, home)
        for group, number in limits:
            run.set_limit(group, number)
        run.move(0, 0, target)
        return run

    def test_home_try_set_off(self):
        run = self.moved(2, 4)
        self.assert_sights(run.copy(), 1, 0, 0, seen(0, 1, 1, move=(0, -1, 0)), seen(0, 1, 1, move=(1, 1, 0)),
                           seen(0, 1, 1, move=(1, 1, 0)), seen(0, 1, 1, move=(2, 1, 0)), seen(0, 1, 3, move=(3, 1, 0)),
                           seen(0, 1, 3, move=(3, 1, 0)), seen(0, 1, 3), seen(0, 1, 3))
        self.assert_sights(run.copy(), 4, 0, 0, seen(0, 1, 3, move=(0, -1, 1)), seen(0, 1, 3, move=(1, 0, 1)),
                           seen(0, 1, 3, move=(2, 0, 1)), seen(0, 1, 3, move=(2, 0, 1)),
                           *[seen(0, 1, 2, move=(3, 0, 1))] * 3, seen(0, 1, 2))
        self.assert_sights(run.copy(), 6, 0, 0, seen(0, 1, 3, move=(0, -1, 0)), *[seen(0, 1, 3, move=(1, 0, 0))] * 2,
                           seen(0, 1, 3, move=(2, 0, 0)), *[seen(0, 1, 3, move=(3, 0, 0))] * 3, seen(0, 1, 3))

    def test_through_both_ways(self):
        run = self.moved(3, 6)
        self.assert_sights(run, 1, 0, 0, seen(0, 1, 1, move=(0, -1, 1)), *[seen(0, 1, 1, move=(1, 1, 1))] * 2,
                           *[seen(0, 1, 1, move=(2, 1, 1))] * 2, *[seen(0, 1, 1, move=(3, 1, 1))] * 3,
                           seen(0, 1, 1), seen(0, 1, 1))

    def test_what_is_left_out_is_done_with_the_last_group(self):
        run = self.moved(3, 6, shared=False)
        self.assert_sights(run, 1, 0, 0, seen(0, 1, 1, move=(0, -1, 1)), seen(0, 1, 1, move=(1, 1, 1)),
                           seen(0, 1, 1, move=(2, 1, 1)), seen(0, 1, 1, move=(3, 1, 1)), seen(0, 1, 1, move=(3, 1, 1)),
                           seen(0, 1, 1))

    def test_words_without_a_group(self):
        parts = {"move": ("home", "look", "add", "off", "set"), "shared": False}
        for group, old, home in ((3, 1, 2), (2, 1, 1), (1, 1, 1)):
            run = self.moved(3, 1, **parts)
            target, before = int(group == 1), seen(0, 1, home, move=(0, -1, int(group == 1)))
            place = {3: [4, 4], 2: [3, 4], 1: [3, 4]}[group]
            self.assert_sights(run, group, 0, 0, before, seen(0, 1, home, move=(3, old, target)),
                               *[seen(0, 1, home, move=(at, old, target)) for at in place],
                               seen(0, 1, 2 if group == 1 else 3))
        run = self.moved(1, 3, **parts)
        self.assert_sights(run, 3, 0, 0, seen(0, 1, 3, move=(0, -1, 1)), seen(0, 1, 3, move=(1, 0, 1)),
                           *[seen(0, 1, 3, move=(2, 0, 1))] * 2, seen(0, 1, 3, move=(3, 0, 1)),
                           seen(0, 1, 3, move=(4, 0, 1)), seen(0, 1, 2))

    def test_a_last_word_without_a_group(self):
        run = self.moved(1, 3, move=("home", "set", "add", "off"), shared=False)
        self.assert_sights(run.copy(), 3, 0, 0, seen(0, 1, 3, move=(0, -1, 1)), seen(0, 1, 3, move=(1, 0, 1)),
                           seen(0, 1, 2, move=(2, 0, 1)), seen(0, 1, 2, move=(3, 0, 1)), seen(0, 1, 2))
        self.assert_sights(run.copy(), 2, 0, 0, seen(0, 1, 3, move=(0, -1, 1)), seen(0, 1, 3, move=(1, 0, 1)),
                           *[seen(0, 1, 1, move=(2, 0, 1))] * 2, seen(0, 1, 1))
        run = self.moved(3, 3, move=("home", "set", "add", "off"), shared=False)
        self.assert_sights(run, 3, 0, 0, seen(0, 1, 2, move=(0, -1, 1)), seen(0, 1, 2, move=(1, 1, 1)), seen(0, 1, 2))

    def test_undo(self):
        run = self.moved(5, 3, [(0, 1)])
        self.assertEqual([run.step(0) for _ in range(5)], ["home", "try", "try", "try", "fail"])
        undoing = seen(0, 1, 3, move=(-1, 0, 0))
        for group, many in ((3, 1), (2, 2), (1, 3)):
            self.assert_sights(run.copy(), group, 0, 0, *[undoing] * many, *[seen(0, 1, 3)] * (4 - many))
        self.assert_sights(run.copy(), 4, 0, 0, *[seen(0, 1, 1)] * 4)
        self.assert_sights(run.copy(), 5, 0, 0, *[seen(0, 1, 2)] * 4)

    def test_a_target_that_is_struck_meanwhile(self):
        run = self.moved(2, 4)
        run.strike(5)
        run.strike(4)
        self.assert_same([sight(run, 4, 0), sight(run, 5, 0)],
                         [seen(1, 1, 3, move=(0, -1, 1)), seen(1, 1, 3, move=(0, -1, 0))])


class TestSightsOfLifts(AuditChecks):

    def lifted(self, row):
        run = run_on(Book(lift=row, **FREE), PARENTS)
        taken(run, 0, 3)
        run.strike(3)
        run.lift(0, 0)
        return run

    def test_each_row(self):
        for row in (("set",), ("off",), ("both",), ("set", "off"), ("off", "set")):
            run = self.lifted(row)
            for group, struck, home, end in ((3, 1, 2, 3), (2, 0, 1, 2), (1, 0, 1, 1), (5, 0, 3, 3)):
                begin = seen(struck, 1, home, lift=(0, home))
                between = [seen(struck, 1, end if row[0] == "set" else home, lift=(1, home)) for _ in row[1:]]
                last = seen(struck, 1, home if row == ("off",) else end)
                self.assert_sights(run.copy(), group, 0, 0, begin, *between, last)

    def test_with_other_walks(self):
        run = self.lifted(("set", "off"))
        run.do_all([("move", 1, 0, 5), ("give", 2, 0), ("step", 2), ("step", 0)])
        self.assert_same([sight(run, group, 0) for group in (3, 2, 5)], [
            seen(1, 1, 3, (), (1, 1), (0, -1, 0), (1, 2)), seen(0, 1, 2, (), (1, 1), (0, -1, 0), (1, 1)),
            seen(0, 1, 3, (), (1, 0), (0, -1, 1), (1, 3))])


class TestSightsOfStocks(AuditChecks):

    def test_from_each_group(self):
        run = run_on(Book(batch=3), PARENTS)
        taken(run, 4, 2)
        self.assert_same([sight(run, group, ("stock", 4)) for group in range(1, 7)],
                         [seen(life=2, home=home) for home in (1, 2, 3, 3, 3, 3)])
        run.strike(3)
        run.strike(2)
        self.assert_same([sight(run, group, ("stock", 4)) for group in range(1, 5)],
                         [seen(0, 2, 1), seen(1, 2, 2), seen(1, 2, 3), seen(0, 2, 3)])

    def test_a_stock_of_the_top(self):
        run = run_on(Book(batch=3), PARENTS)
        taken(run, 4, 0)
        self.assert_same([sight(run, group, ("stock", 4)) for group in range(1, 7)], [seen(life=2, home=3)] * 6)

    def test_things_by_stock(self):
        run = run_on(Book(batch=3), PARENTS)
        taken(run, 4, 2)
        run.take(4, 2)
        self.assert_same([sight(run, group, 1) for group in (1, 2, 3)],
                         [seen(life=1, home=1), seen(life=1, home=2), seen(life=1, home=3)])


if __name__ == "__main__":
    unittest.main()
