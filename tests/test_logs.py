"""What is done with whole deeds: do, do_all, the log, undo, copy and tried_by."""

import random
import unittest

from chargeways.audits import charged, sight, spare
from chargeways.books import Book
from chargeways.errors import (AtWork, DeedFailed, HasChildren, InvalidDeed, InvalidGroup, InvalidHand,
                               InvalidThing, IsTop, LimitError, NoStock, NothingToUndo, NotLiving, NotStruck, NoWalk,
                               StandError, Struck, TooMany, UnderWay, WayError)
from chargeways.runs import Run
from common import NO_LISTS, RunChecks, counts, draw_book, run_on, shown, taken, words_to_the_end
from drawn import answer, audited, draw_deed

NO_DEEDS = [
    None, True, False, 0, 1, "", "step", "step 0", b"step", [], (), {}, {"step": 0}, {"step"}, object(), len, tuple,
    ["step", 0], ["group", 0], [("group", 0)], (("group", 0),), ("group",), ("group", 0, 0), ("group", None),
    ("group", True), ("group", "0"), ("group", (0,)), ("group", [0]), (None, 0), (0, "group"), (True, 0),
    (["group"], 0),
    ("Group", 0), ("group ", 0), (b"group", 0), ("", 0), ("new_group", 0), ("undo",), ("count", 0), ("wait", 0),
    ("try", 0), ("limit", 0), ("limit", 0, 1, 2), ("limit", None, 1), ("limit", None, None), ("limit", True, 1),
    ("limit", 0, False), ("limit", 0, "none"), ("limit", 0, []), ("limit", "0", None), ("strike",), ("strike", None),
    ("strike", 0, 0), ("take", 0), ("take", 0, 0, 0), ("take", None, 0), ("take", 0, None), ("take", True, 0),
    ("take", 0, False), ("give", 0), ("give", 0, 0, 0), ("give", 0, None), ("give", "0", 0), ("move", 0, 0),
    ("move", 0, 0, 0, 0), ("move", 0, 0, None), ("move", 0, None, 0), ("move", None, 0, 0), ("move", 0, 0, True),
    ("lift", 0), ("lift", 0, 0, 0), ("lift", 0, True), ("lift", 0, None), ("settle", 0), ("settle", 0, None),
    ("settle", 0, 0, 0), ("settle", True, 0), ("settle", 0, False), ("step",), ("step", 0, 0), ("step", None),
    ("step", False), ("step", "0"), ("step", (0,))]


def all_of(run):
    """All that the run and its audits tell."""
    return {**shown(run), **audited(run)}


def long_run(seed, deeds=80):
    """A run with drawn deeds, and what was told of it behind each of them that changed it."""
    draw = random.Random(seed)
    run = Run(draw_book(draw))
    ends = [all_of(run)]
    for _ in range(deeds):
        deed = draw_deed(draw, run, wrong=0)
        if answer(run, deed)[0] == "done" and len(run.log()) == len(ends):
            ends.append(all_of(run))
    return run, ends


class TestDo(RunChecks):

    def test_values_that_are_no_deeds(self):
        run = run_on(Book(), [0])
        run.take(0, 1)
        before = shown(run)
        for value in NO_DEEDS:
            self.assert_raises(InvalidDeed, {"value": value}, run.do, value)
            self.assert_raises(InvalidDeed, {"value": value}, run.do, deed=value)
        self.assert_same(shown(run), before)

    def test_what_each_deed_returns(self):
        run = run_on(Book(batch=2))
        for deed, wanted in ((("group", 0), 1), (("group", 1), 2), (("limit", 2, 9), None), (("limit", 2, None), None),
                             (("take", 4, 2), 0), (("step", 4), "try"), (("step", 4), "try"), (("step", 4), "try"),
                             (("step", 4), "live"), (("strike", 2), None), (("settle", 4, 4), None),
                             (("step", 4), "off"), (("lift", 1, 0), None), (("step", 1), "both"),
                             (("move", 1, 0, 0), None), (("step", 1), "home"), (("take", 2, 1), 1)):
            self.assert_does(run, deed, wanted)

    def test_errors_of_the_methods(self):
        run = run_on(Book(), [0, 1])
        run.strike(2)
        for deed, error, values in (
                (("group", -1), InvalidGroup, {"value": -1}), (("group", 2), Struck, {"group": 2}),
                (("limit", 3, 0), InvalidGroup, {"value": 3}), (("limit", 3, None), InvalidGroup, {"value": 3}),
                (("strike", 0), IsTop, {}), (("strike", 10 ** 30), InvalidGroup, {"value": 10 ** 30}),
                (("take", 100, 0), InvalidHand, {"value": 100}), (("take", 0, 2), Struck, {"group": 2}),
                (("give", 0, 0), InvalidThing, {"value": 0}), (("give", -1, 0), InvalidHand, {"value": -1}),
                (("move", 0, 0, 9), InvalidThing, {"value": 0}), (("lift", 0, -1), InvalidThing, {"value": -1}),
                (("settle", 0, 100), InvalidHand, {"value": 100}), (("settle", 0, 1), NoStock, {"hand": 1}),
                (("step", 0), NoWalk, {"hand": 0}), (("step", -1), InvalidHand, {"value": -1})):
            self.assert_fault(run, error, values, deed)


class TestDoAll(RunChecks):

    def test_what_they_return(self):
        deeds = [("group", 0), ("limit", 1, 1), ("take", 0, 1), ("step", 0), ("step", 0), ("step", 0), ("strike", 1)]
        wanted = [1, None, 0, "try", "try", "live", None]
        for passed in (deeds, tuple(deeds)):
            run = Run(Book())
            self.assert_same(run.do_all(passed), wanted)
            self.assert_same(run.log(), deeds)
        self.assertEqual(Run(Book()).do_all(deeds=deeds), wanted)
        self.assert_same(deeds[-1], ("strike", 1))

    def test_none(self):
        run = run_on(Book(), [0])
        before = shown(run)
        self.assert_same(run.do_all([]), [])
        self.assert_same(run.do_all(()), [])
        self.assert_same(shown(run), before)

    def test_values_that_are_no_lists(self):
        run = run_on(Book(), [0])
        for value in NO_LISTS + ["step 0", {("group", 0)}, {("group", 0): 1}]:
            self.assertIsNone(self.assert_raises(InvalidDeed, {"value": None}, run.do_all, value).value)
        self.assertEqual(run.log(), [("group", 0)])

    def assert_fails_at(self, run, position, error, values, deeds):
        before = all_of(run)
        for passed in (deeds, tuple(deeds)):
            raised = self.assert_raises(DeedFailed, {"position": position}, run.do_all, passed)
            self.assertIs(type(raised.__cause__), error)
            self.assert_same({name: getattr(raised.__cause__, name) for name in values}, values)
            self.assert_same(all_of(run), before)

    def test_none_is_done_if_one_fails(self):
        run = run_on(Book(batch=2), [0, 1], [(0, 5)])
        taken(run, 0, 2)
        run.give(1, 0)
        good = [("group", 0), ("limit", 0, None), ("step", 1), ("settle", 0, 0), ("step", 0), ("strike", 2),
                ("take", 7, 3), ("step", 7)]
        for fault, error, values in (
                (("group", 9), InvalidGroup, {"value": 9}), (("take", 7, 1), AtWork, {"hand": 7}),
                (("take", 100, 1), InvalidHand, {"value": 100}),
                (("give", 9, 0), UnderWay, {"thing": 0, "kind": "give"}),
                (("give", 9, 1), NotLiving, {"thing": 1}), (("lift", 9, 2), InvalidThing, {"value": 2}),
                (("strike", 0), IsTop, {}), (("step", 8), NoWalk, {"hand": 8}), (("group", 2), Struck, {"group": 2})):
            self.assert_fails_at(run, len(good), error, values, [*good, fault, ("group", 0), ("nothing",)])
        for value in NO_DEEDS:
            self.assert_fails_at(run, len(good), InvalidDeed, {"value": value}, [*good, value])
        self.assertEqual(len(run.do_all(good)), len(good))

    def test_the_first_one_that_fails(self):
        run = run_on(Book(), [0, 1])
        self.assert_fails_at(run, 0, NoWalk, {"hand": 0}, [("step", 0), None])
        self.assert_fails_at(run, 0, InvalidDeed, {"value": None}, [None, ("step", 0)])
        self.assert_fails_at(run, 1, HasChildren, {"group": 1}, [("limit", 0, 1), ("strike", 1), None])
        taken(run, 0, 2)
        self.assert_fails_at(run, 2, NotStruck, {"group": 2}, [("group", 0), ("give", 0, 0), ("lift", 1, 0), ("x",)])

    def test_too_many(self):
        run = run_on(Book(), [0] * 198)
        self.assert_fails_at(run, 1, TooMany, {"what": "groups", "limit": 200}, [("group", 1), ("group", 1)])
        self.assertEqual(len(run.tree), 199)

    def test_steps_that_wait_are_let_and_do_nothing(self):
        run = run_on(Book(fails="wait"), [0], [(0, 0)])
        self.assert_same(run.do_all([("take", 0, 1), *[("step", 0)] * 3, ("limit", 0, 1), ("step", 0)]),
                         [0, "try", "wait", "wait", None, "try"])
        self.assert_same(run.log()[2:], [("take", 0, 1), ("step", 0), ("limit", 0, 1), ("step", 0)])
        before = all_of(run)
        run.set_limit(0, 0)
        run.undo()
        self.assert_same(all_of(run), before)

    def test_waits_ahead_of_one_that_fails(self):
        run = run_on(Book(fails="wait"), [0], [(1, 0)])
        run.take(0, 1)
        self.assert_fails_at(run, 3, AtWork, {"hand": 0}, [("step", 0), ("limit", 0, 2), ("step", 0), ("take", 0, 0)])

    def test_steps_that_fail_are_deeds(self):
        for fails in ("undo", "leave"):
            run = run_on(Book(fails=fails), [0], [(1, 0)])
            self.assert_same(run.do_all([("take", 0, 1), ("step", 0)]), [0, "fail"])
            self.assert_same(run.log()[-1], ("step", 0))

    def test_many_deeds(self):
        run = Run(Book(take=("add", "live")))
        deeds = [("group", 0), ("take", 0, 1), ("step", 0), ("step", 0), ("step", 0)]
        deeds += [("move", 0, 0, 0), *[("step", 0)] * 5, ("move", 0, 0, 1), *[("step", 0)] * 5] * 1500
        found = run.do_all(deeds)
        self.assertEqual((len(found), run.count(0), run.count(1), run.home(0)), (len(deeds), 1, 1, 1))
        self.assertEqual(run.log(), deeds)
        self.assert_fails_at(run, 3000, NoWalk, {"hand": 0}, [("limit", 0, 2)] * 3000 + [("step", 0)])


class TestLog(RunChecks):

    def test_each_deed_is_told_as_a_tuple(self):
        run = Run(Book(batch=2))
        run.new_group(0)
        run.set_limit(1, 8)
        run.set_limit(number=None, group=1)
        run.take(3, 1)
        for _ in range(3):
            run.step(3)
        run.take(hand=3, group=1)
        run.take(4, 1)
        for _ in range(3):
            run.step(4)
        run.strike(1)
        run.settle(5, 4)
        run.lift(thing=0, hand=6)
        run.give(7, 1)
        run.step(hand=6)
        run.move(6, 0, 0)
        self.assert_same(run.log(), [
            ("group", 0), ("limit", 1, 8), ("limit", 1, None), ("take", 3, 1), ("step", 3), ("step", 3), ("step", 3),
            ("take", 3, 1), ("take", 4, 1), ("step", 4), ("step", 4), ("step", 4), ("strike", 1), ("settle", 5, 4),
            ("lift", 6, 0), ("give", 7, 1), ("step", 6), ("move", 6, 0, 0)])

    def test_deeds_that_fail_are_not_told(self):
        run = run_on(Book(), [0])
        for deed in (("group", 5), ("take", 0, 5), ("step", 0), ("nothing",), ("strike", 0), ("give", 0, 0)):
            with self.assertRaises((WayError, StandError, LimitError)):
                run.do(deed)
        self.assertEqual(run.log(), [("group", 0)])

    def test_a_run_that_does_it_again_is_equal_in_all(self):
        for seed in range(40):
            run, ends = long_run(seed)
            again = Run(run.book)
            again.do_all(run.log())
            self.assert_same(all_of(again), ends[-1])
            for many in (0, 1, len(ends) // 2):
                part = Run(run.book)
                part.do_all(run.log()[:many])
                self.assert_same(all_of(part), ends[many])


class TestUndo(RunChecks):

    def test_nothing_to_undo(self):
        run = Run(Book())
        self.assert_raises(NothingToUndo, {}, run.undo)
        run.new_group(0)
        self.assert_same(run.undo(), ("group", 0))
        self.assert_raises(NothingToUndo, {}, run.undo)
        self.assertEqual((len(run.tree), run.log()), (1, []))

    def test_each_deed_is_taken_back(self):
        for seed in range(40, 80):
            run, ends = long_run(seed)
            log = run.log()
            self.assertEqual(len(ends), len(log) + 1)
            for many in reversed(range(len(log))):
                self.assert_same(run.undo(), log[many])
                self.assert_same(all_of(run), ends[many])
            self.assert_raises(NothingToUndo, {}, run.undo)

    def test_each_kind_of_deed(self):
        run = run_on(Book(batch=2, holds=()), [0, 0], [(1, 9)])
        taken(run, 0, 1)
        taken(run, 1, 1)
        for deeds in ([("group", 1)], [("limit", 1, 3)], [("limit", 1, None)], [("strike", 1)], [("take", 2, 1)],
                      [("take", 0, 1)], [("give", 3, 0)], [("move", 3, 0, 2)], [("strike", 1), ("lift", 3, 0)],
                      [("settle", 0, 0)], [("strike", 1), ("settle", 3, 0)], [("give", 3, 0), ("step", 3)],
                      [("strike", 1), ("lift", 3, 0), ("step", 3)], [("settle", 0, 0), ("step", 0), ("step", 0)],
                      [("move", 3, 0, 2), *[("step", 3)] * 6], [("give", 3, 0), *[("step", 3)] * 4],
                      [("limit", 0, 4), ("take", 2, 2), *[("step", 2)] * 3]):
            before = all_of(run)
            run.do_all(deeds)
            self.assertNotEqual(repr(all_of(run)), repr(before))
            for deed in reversed(deeds):
                self.assert_same(run.undo(), deed)
            self.assert_same(all_of(run), before)

    def test_numbers_are_given_again(self):
        run = run_on(Book(), [0])
        self.assertEqual(run.take(0, 1), 0)
        run.undo()
        self.assertEqual((run.things, run.take(5, 0), run.new_group(0)), (0, 0, 2))
        run.undo()
        self.assertEqual(run.new_group(1), 2)
        self.assertEqual(run.tree.parents(), [0, 1])

    def test_a_wait_is_no_deed_that_is_taken_back(self):
        run = run_on(Book(fails="wait"), [0], [(1, 0)])
        run.take(0, 1)
        self.assertEqual(run.step(0), "wait")
        self.assert_same(run.undo(), ("take", 0, 1))

    def test_deeds_behind_an_undo(self):
        run = run_on(Book(), [0])
        run.take(0, 1)
        run.step(0)
        run.undo()
        run.set_limit(1, 0)
        self.assertEqual(run.step(0), "fail")
        self.assert_same(run.log(), [("group", 0), ("take", 0, 1), ("limit", 1, 0), ("step", 0)])
        run.undo()
        run.undo()
        self.assertEqual((run.step(0), run.limit_of(1)), ("try", None))


class TestCopy(RunChecks):

    def test_equal_in_all(self):
        for seed in range(80, 100):
            run, ends = long_run(seed)
            twin = run.copy()
            self.assertIs(type(twin), Run)
            self.assertIsNot(twin, run)
            self.assertEqual(twin.book, run.book)
            self.assert_same(all_of(twin), ends[-1])
            for many in reversed(range(len(ends) - 1)):
                twin.undo()
                self.assert_same(all_of(twin), ends[many])
            self.assert_same(all_of(run), ends[-1])

    def test_of_its_own(self):
        run = run_on(Book(batch=2), [0, 0])
        taken(run, 0, 1)
        run.give(1, 0)
        before = all_of(run)
        twin = run.copy()
        for deed in (("step", 1), ("group", 1), ("limit", 0, 4), ("strike", 2), ("take", 0, 1), ("take", 2, 0)):
            twin.do(deed)
            self.assert_same(all_of(run), before)
        end = all_of(twin)
        for deed in (("settle", 0, 0), ("limit", 1, 9), ("strike", 1), ("step", 1)):
            run.do(deed)
            self.assert_same(all_of(twin), end)
        while run.log():
            run.undo()
        self.assert_same(all_of(twin), end)

    def test_copies_of_copies(self):
        run = Run(Book())
        chain = [run]
        for _ in range(5):
            chain.append(chain[-1].copy())
            chain[-1].new_group(0)
        self.assertEqual([len(one.tree) for one in chain], [1, 2, 3, 4, 5, 6])
        self.assertEqual([len(one.log()) for one in chain], [0, 1, 2, 3, 4, 5])


class TestTriedBy(RunChecks):

    def busy_run(self):
        run = run_on(Book(batch=2, fails="wait"), [0, 0], [(2, 0)])
        taken(run, 0, 1)
        run.do_all([("give", 1, 0), ("step", 1), ("take", 2, 2), ("step", 2)])
        return run

    def test_what_the_action_returns(self):
        run = self.busy_run()
        before = all_of(run)
        for action, wanted in ((lambda tried: tried.new_group(0), 3), (lambda tried: None, None),
                               (lambda tried: tried.step(2), "wait"), (lambda tried: tried.step(1), "off"),
                               (lambda tried: tried.take(0, 1), 2), (lambda tried: tried.undo(), ("take", 2, 2)),
                               (lambda tried: [tried.count(1), tried.things], [2, 2]), (counts, [2, 2, 0]),
                               (lambda tried: tried.do_all([("strike", 1), ("group", 2), ("settle", 0, 0)]),
                                [None, 3, None])):
            self.assert_same(run.tried_by(action), wanted)
            self.assert_same(all_of(run), before)
            self.assert_same(run.tried_by(action=action), wanted)
            self.assert_same(all_of(run), before)

    def test_the_action_is_done_with_the_run(self):
        run = self.busy_run()
        seen = []

        def action(tried):
            seen.append(all_of(tried))
            words_to_the_end(tried, 1)
            seen.append(all_of(tried))

        before = all_of(run)
        self.assertIsNone(run.tried_by(action))
        self.assert_same(seen[0], before)
        self.assertEqual((seen[1]["counts"], seen[1]["lives"]), ([1, 1, 0], [False, False]))
        self.assert_same(all_of(run), before)

    def test_it_is_the_very_run(self):
        run = self.busy_run()
        before = all_of(run)
        self.assertIs(run.tried_by(lambda tried: tried), run)
        run.tried_by(lambda tried: run.new_group(0))
        self.assert_same(all_of(run), before)

    def test_also_if_the_action_raises(self):
        run = self.busy_run()
        before = all_of(run)

        def raising(error):
            def action(tried):
                tried.new_group(1)
                tried.step(1)
                raise error
            return action

        for error in (ValueError("x"), KeyError("x"), NoWalk(3), InvalidGroup(None), DeedFailed(0), StopIteration(),
                      KeyboardInterrupt(), SystemExit()):
            with self.assertRaises(type(error)) as held:
                run.tried_by(raising(error))
            self.assertIs(held.exception, error)
            self.assert_same(all_of(run), before)
        self.assert_raises(AtWork, {"hand": 1}, run.tried_by, lambda tried: tried.take(1, 1))
        self.assert_same(all_of(run), before)

    def test_an_action_that_takes_back_all(self):
        run = self.busy_run()
        before = all_of(run)

        def take_back(tried):
            while tried.log():
                tried.undo()
            tried.new_group(0)
            tried.take(50, 1)
            return len(tried.log())

        self.assertEqual(run.tried_by(take_back), 2)
        self.assert_same(all_of(run), before)
        self.assert_same(run.undo(), ("take", 2, 2))

    def test_one_within_another(self):
        run = self.busy_run()
        before = all_of(run)

        def outer(tried):
            tried.new_group(0)
            middle = all_of(tried)
            self.assertEqual(tried.tried_by(lambda inner: (inner.new_group(0), inner.undo(), inner.undo())),
                             (4, ("group", 0), ("group", 0)))
            self.assert_same(all_of(tried), middle)
            return tried.new_group(0)

        self.assertEqual(run.tried_by(outer), 4)
        self.assert_same(all_of(run), before)

    def test_runs_that_are_tried_go_on(self):
        for seed in range(100, 115):
            run, ends = long_run(seed)
            draw = random.Random(seed)

            def action(tried):
                return [answer(tried, draw_deed(draw, tried)) for _ in range(30)]

            self.assertEqual(len(run.tried_by(action)), 30)
            self.assert_same(all_of(run), ends[-1])
            run.undo()
            self.assert_same(all_of(run), ends[-2])


class TestAudited(RunChecks):

    def test_audits_go_along(self):
        run = run_on(Book(batch=3), [0])
        run.take(0, 1)
        run.step(0)
        self.assertEqual((charged(run, 1, 0), spare(run, 1), sight(run, 1, 0)),
                         (1, 2, (0, 0, 0, (1, 1), (), (), (), ())))
        run.undo()
        self.assertEqual((charged(run, 1, 0), spare(run, 1), sight(run, 1, 0)),
                         (0, 0, (0, 0, 0, (0, 1), (), (), (), ())))


if __name__ == "__main__":
    unittest.main()
