"""Walks: what their single deeds do, what a failed test does, stocks, old homes, strikes on the way, and holds."""

import itertools
import unittest

from chargeways.books import Book
from chargeways.errors import Held, NotLiving, UnderWay
from chargeways.plans import give_plan, lift_plan, move_plan, settle_plan, take_plan
from common import FAILS, KINDS, ROWS, RunChecks, counts, fits, run_on, taken, words_to_the_end

# 0 - 1 - 2 - 3 and 0 - 4 - 5, 1 - 6
PARENTS = [0, 1, 2, 0, 4, 1]

# charges are added without a test and never held, so that things come to live at once
FREE = {"take": ("live", "add"), "holds": ()}

CHANGES = {"add": 1, "try": 1, "off": -1, "both": -1, "undo": -1}


def steps_of(run, hand):
    """The single deeds that the hand's walk shows, as it does them all."""
    found = []
    while run.walk(hand) is not None:
        word, group = run.walk(hand)[2:]
        assert run.step(hand) == word
        found.append((word, group))
    return found


def with_thing(book, home, limits=()):
    """A run with one thing in this home, the limits being set behind it."""
    run = run_on(book, PARENTS)
    thing = taken(run, 0, home)
    if run.stock(0) is not None:
        run.settle(0)
        words_to_the_end(run, 0)
    assert (thing, run.home(0), run.at_rest) == (0, home, True)
    for group, number in limits:
        run.set_limit(group, number)
    return run


def changed_counts(before, deeds, number=1):
    """The counts behind these single deeds."""
    found = list(before)
    for word, group in deeds:
        if word in CHANGES:
            found[group] += number * CHANGES[word]
    return found


class TestWalksGoByTheirPlans(RunChecks):

    def assert_walk(self, run, hand, kind, thing, plan, number=1):
        """The walk shows and does the plan, deed by deed, and the counts go along."""
        before = counts(run)
        for at, (word, group) in enumerate(plan):
            self.assert_same(run.walk(hand), (kind, thing, word, group))
            self.assertIn(hand, run.working())
            self.assertFalse(run.at_rest)
            self.assert_same(run.step(hand), word)
            self.assertEqual(counts(run), changed_counts(before, plan[:at + 1], number))
        self.assertIsNone(run.walk(hand))
        self.assertNotIn(hand, run.working())

    def test_takes_with_each_row_and_batch(self):
        for row, batch, group in itertools.product(ROWS["take"], (1, 2, 50), range(7)):
            if not fits({"take": row, "batch": batch}):
                continue
            book = Book(take=row, batch=batch)
            run = run_on(book, PARENTS)
            self.assertEqual(run.take(2, group), 0)
            self.assert_walk(run, 2, "take", 0, take_plan(book, run.tree, group), batch)
            self.assert_same((run.lives(0), run.home(0)), (True, group))
            self.assert_same(run.stock(2), (group, batch - 1) if batch > 1 else None)
            self.assertIs(run.at_rest, batch == 1)

    def test_a_take_lives_at_its_word_and_not_ahead_of_it(self):
        for row in ROWS["take"]:
            run = run_on(Book(take=row), PARENTS)
            run.take(0, 3)
            while run.walk(0) is not None:
                word = run.walk(0)[2]
                lived = run.lives(0)
                run.step(0)
                self.assert_same((run.lives(0), run.home(0)), (True, 3) if lived or word == "live" else (False, None))

    def test_gives_with_each_row(self):
        for row, home in itertools.product(ROWS["give"], range(7)):
            book = Book(give=row, **FREE)
            run = with_thing(book, home)
            run.give(2, 0)
            plan = give_plan(book, run.tree, home)
            self.assert_walk(run, 2, "give", 0, plan)
            self.assert_same((run.lives(0), run.home(0)), (False, home))

    def test_a_give_ends_at_its_word(self):
        run = with_thing(Book(give=("home", "end", "off"), **FREE), 1)
        run.give(2, 0)
        self.assertEqual([(run.step(2), run.lives(0)) for _ in range(4)],
                         [("home", True), ("end", False), ("off", False), ("off", False)])

    def test_moves_with_each_row(self):
        for row, shared, (home, target) in itertools.product(
                ROWS["move"], (True, False), [(3, 5), (3, 1), (1, 3), (3, 3), (3, 0), (0, 3), (0, 0), (3, 6)]):
            if row == () or not fits({"move": row, "shared": shared}):
                continue
            book = Book(move=row, shared=shared, **FREE)
            run = with_thing(book, home)
            if "home" in row and "set" in row[:row.index("home")]:
                # the home that it remembers is the target already
                plan = move_plan(book, run.tree, target, target)
            else:
                plan = move_plan(book, run.tree, home, target)
            run.move(2, 0, target)
            self.assert_walk(run, 2, "move", 0, plan)
            self.assert_same((run.lives(0), run.home(0)), (True, target))

    def test_a_move_sets_at_its_word(self):
        run = with_thing(Book(move=("home", "add", "set", "off"), **FREE), 4)
        run.move(2, 0, 1)
        self.assertEqual([(run.step(2), run.home(0)) for _ in range(6)],
                         [("home", 4), ("add", 4), ("add", 4), ("set", 1), ("off", 1), ("off", 1)])

    def test_lifts_with_each_row(self):
        for row, home in itertools.product(ROWS["lift"], range(1, 7)):
            if row == ():
                continue
            book = Book(lift=row, **FREE)
            run = with_thing(book, home)
            for group in (3, 2, 6, 1, 5, 4):
                run.strike(group)
            run.lift(2, 0)
            self.assert_walk(run, 2, "lift", 0, lift_plan(book, run.tree, home))
            sets = "set" in row or "both" in row
            self.assert_same((run.lives(0), run.home(0)), (True, run.tree.parent(home) if sets else home))

    def test_a_lift_takes_off_at_the_home_from_which_it_lifts_alone(self):
        for row in (("off",), ("set", "off"), ("off", "set"), ("both",)):
            run = with_thing(Book(lift=row, **FREE), 3)
            run.strike(3)
            run.lift(2, 0)
            words_to_the_end(run, 2)
            self.assertEqual(counts(run), [1, 1, 1, 0, 0, 0, 0])

    def test_settles(self):
        for batch, group in itertools.product((2, 7, 50), range(7)):
            run = run_on(Book(batch=batch), PARENTS)
            taken(run, 2, group)
            run.settle(2)
            self.assertIsNone(run.stock(2))
            self.assert_walk(run, 2, "settle", None, settle_plan(run.tree, group), batch - 1)
            self.assertEqual(counts(run), [int(one in run.tree.way(group)) for one in range(7)])
            self.assertTrue(run.at_rest)

    def test_two_hundred_groups(self):
        book = Book()
        run = run_on(book, range(199))
        run.take(0, 199)
        self.assertEqual(steps_of(run, 0), take_plan(book, run.tree, 199))
        self.assertEqual(counts(run), [1] * 200)
        run.move(0, 0, 100)
        self.assertEqual(steps_of(run, 0), move_plan(book, run.tree, 199, 100))
        self.assertEqual(counts(run), [1] * 101 + [0] * 99)


class TestTests(RunChecks):
    """A take of three into the chain 3 - 2 - 1 - 0; the limit of one group does not let it."""

    def failing(self, row, fails, group, batch=3):
        """The run, the words up to where it fails, and what is added until then."""
        run = run_on(Book(take=row, fails=fails, batch=batch), PARENTS)
        run.set_limit(group, batch - 1)
        run.take(0, 3)
        ahead = 3 - group + (4 if row[:2] == ("add", "look") else 0)
        words = [run.step(0) for _ in range(ahead)]
        self.assertEqual(words, [word for word, _ in take_plan(run.book, run.tree, 3)][:ahead])
        added = [step for step in (3, 2, 1, 0) if run.count(step) == batch]
        self.assertEqual(run.walk(0)[2:], ("try" if row[0] == "try" else "look", group))
        return run, added

    def rows(self):
        return [("try", "live"), ("look", "add", "live"), ("add", "look", "live")]

    def test_undo_at_each_group(self):
        for row, group in itertools.product(self.rows(), (3, 2, 1, 0)):
            run, added = self.failing(row, "undo", group)
            wanted = {"try": [3, 2, 1][:3 - group], "look": [], "add": [3, 2, 1, 0]}
            self.assertEqual(added, wanted[row[0]])
            self.assert_does(run, ("step", 0), "fail")
            self.assertEqual([step for step in (3, 2, 1, 0) if run.count(step) == 3], added)
            for step in added:
                self.assert_same(run.walk(0), ("take", 0, "undo", step))
                self.assert_does(run, ("step", 0), "undo")
                self.assertEqual(run.count(step), 0)
            self.assert_same([run.walk(0), run.at_rest, run.lives(0), run.home(0), run.stock(0), counts(run)],
                             [None, True, False, None, None, [0] * 7])

    def test_leave_at_each_group(self):
        for row, group in itertools.product(self.rows(), (3, 2, 1, 0)):
            run, added = self.failing(row, "leave", group)
            self.assert_does(run, ("step", 0), "fail")
            self.assert_same([run.walk(0), run.at_rest, run.lives(0), run.home(0), run.stock(0)],
                             [None, True, False, None, None])
            self.assertEqual(counts(run), [3 if one in added else 0 for one in range(7)])

    def test_wait_at_each_group(self):
        for row, group in itertools.product(self.rows(), (3, 2, 1, 0)):
            run, added = self.failing(row, "wait", group)
            before = (counts(run), run.walk(0), run.log())
            for _ in range(3):
                for call in (lambda: run.step(0), lambda: run.step(hand=0), lambda: run.do(("step", 0))):
                    self.assert_same(call(), "wait")
                    self.assert_same((counts(run), run.walk(0), run.log()), before)
            self.assertEqual(run.working(), [0])
            run.set_limit(group, 3)
            self.assertEqual(words_to_the_end(run, 0)[-1], "live")
            self.assertEqual((counts(run), run.stock(0)), ([3, 3, 3, 3, 0, 0, 0], (3, 2)))

    def test_just_met(self):
        for row, fails, group in itertools.product(self.rows(), FAILS, (3, 2, 1, 0)):
            run = run_on(Book(take=row, fails=fails, batch=3), PARENTS, [(group, 3)])
            run.take(0, 3)
            self.assertEqual(words_to_the_end(run, 0)[-1], "live")
            run.take(1, 3)
            words = [run.step(1) for _ in range(3 - group + 4 * (row[0] == "add") + 1)]
            self.assertEqual(words[-1], "wait" if fails == "wait" else "fail")

    def test_limits_that_let(self):
        for limit, lets in ((None, True), (10 ** 39, True), (1, True), (0, False), (-1, False), (-10 ** 39, False)):
            run = run_on(Book(), PARENTS, [(1, limit)])
            run.take(0, 2)
            self.assertEqual([run.step(0), run.step(0)], ["try", "try" if lets else "fail"])

    def test_limits_below_zero(self):
        book = Book(take=("look", "add", "live"), move=("set",), holds=())
        for limit, word in ((-2, "fail"), (-1, "fail"), (0, "look")):
            run = with_thing(book, 4)
            run.do_all([("move", 1, 0, 5), ("step", 1), ("give", 1, 0)])
            words_to_the_end(run, 1)
            self.assertEqual(run.count(5), -1)
            run.set_limit(5, limit)
            run.take(0, 5)
            self.assertEqual(run.step(0), word)
        run = with_thing(book.with_row("lift", ("off",)), 5)
        run.strike(5)
        for hand in range(4):
            run.lift(hand, 0)
            run.step(hand)
        self.assertEqual(run.count(5), -3)

    def test_what_the_walk_has_added_itself_does_not_count_against_it(self):
        for batch in (1, 4):
            run = run_on(Book(take=("add", "look", "live"), batch=batch), PARENTS, [(1, 2 * batch)])
            for hand in (0, 1):
                run.take(hand, 2)
                self.assertEqual([run.step(hand) for _ in range(3)], ["add"] * 3)
            self.assertEqual(run.count(1), 2 * batch)
            self.assertEqual([run.step(0) for _ in range(4)], ["look"] * 3 + ["live"])
            run.set_limit(1, 2 * batch - 1)
            self.assertEqual([run.step(1), run.step(1), run.walk(1)], ["look", "fail", ("take", 1, "undo", 2)])

    def test_what_others_have_added_counts(self):
        run = run_on(Book(take=("look", "add", "live")), PARENTS, [(1, 1)])
        run.do_all([("take", 0, 2), ("take", 1, 1), ("step", 0), ("step", 0), ("step", 0), ("step", 1), ("step", 1)])
        self.assertEqual([run.step(0), run.step(0), run.step(0), run.step(0)], ["add", "add", "add", "live"])
        self.assertEqual([run.step(1), run.count(1)], ["add", 2])
        run.take(2, 2)
        self.assertEqual([run.step(2), run.step(2), run.walk(2)], ["look", "fail", None])

    def test_a_test_asks_again_at_each_group(self):
        run = run_on(Book(fails="wait"), PARENTS, [(3, 0), (1, 0)])
        run.take(0, 3)
        self.assertEqual(run.step(0), "wait")
        run.set_limit(3, None)
        self.assertEqual([run.step(0), run.step(0), run.step(0), run.step(0)], ["try", "try", "wait", "wait"])
        run.set_limit(1, 1)
        self.assertEqual(words_to_the_end(run, 0), ["try", "try", "live"])

    def test_words_without_a_test_go_above_the_limit(self):
        run = run_on(Book(take=("add", "live"), move=("home", "add", "set", "off")), PARENTS, [(0, -5), (1, 0), (4, 0)])
        taken(run, 0, 1)
        run.move(0, 0, 4)
        self.assertEqual(words_to_the_end(run, 0), ["home", "add", "add", "set", "off", "off"])
        self.assertEqual((counts(run)[:5], run.home(0)), ([1, 0, 0, 0, 1], 4))

    def test_moves_that_fail_at_each_group(self):
        for row, shared, fails, group in itertools.product(
                [("home", "try", "set", "off"), ("home", "look", "add", "set", "off"), ("home", "add", "look", "set")],
                (True, False), FAILS, (3, 2, 1)):
            run = with_thing(Book(move=row, shared=shared, fails=fails, **FREE), 5, [(group, 0)])
            before, way = counts(run), [3, 2, 1] if not shared else [3, 2, 1, 0]
            run.move(2, 0, 3)
            words = []
            while run.walk(2) is not None and words[-1:] not in (["fail"], ["wait"]):
                words.append(run.step(2))
            looks = ["try" if row[1] == "try" else "look"] * way.index(group)
            adds = ["add"] * len(way) if row[1] == "add" else []
            self.assertEqual(words, ["home", *adds, *looks, "wait" if fails == "wait" else "fail"])
            added = way if adds else way[:way.index(group)] if row[1] == "try" else []
            self.assertEqual(counts(run), changed_counts(before, [("add", step) for step in added]))
            self.assert_same((run.lives(0), run.home(0)), (True, 5))
            if fails == "undo":
                self.assertEqual(steps_of(run, 2), [("undo", step) for step in added])
                self.assertEqual(counts(run), before)
            if fails == "wait":
                self.assertEqual(run.walk(2)[2:], ("try" if row[1] == "try" else "look", group))
                run.set_limit(group, None)
                words_to_the_end(run, 2)
                self.assertEqual(run.home(0), 3)
            self.assertIsNone(run.walk(2))

    def test_a_move_that_has_failed_may_be_tried_again(self):
        run = with_thing(Book(), 5, [(1, 0)])
        run.move(2, 0, 3)
        self.assertEqual([run.step(2) for _ in range(4)], ["home", "try", "try", "fail"])
        self.assert_fault(run, UnderWay, {"thing": 0, "kind": "move"}, ("move", 3, 0, 4))
        self.assert_fault(run, Held, {"thing": 0, "kind": "move"}, ("give", 3, 0))
        self.assertEqual(words_to_the_end(run, 2), ["undo", "undo"])
        run.move(3, 0, 4)
        self.assertEqual(words_to_the_end(run, 3), ["home", "try", "try", "set", "off", "off", "off"])

    def test_a_move_that_tests_without_adding(self):
        for limit, words in ((0, ["look", "fail"]), (1, ["look"] * 3 + ["set"])):
            run = with_thing(Book(move=("look", "set"), **FREE), 5, [(1, limit)])
            run.move(2, 0, 2)
            self.assertEqual(words_to_the_end(run, 2), words)

    def test_a_full_top_lets_no_move_by_itself(self):
        run = with_thing(Book(fails="wait"), 5, [(0, 1)])
        run.move(2, 0, 1)
        self.assertEqual([run.step(2) for _ in range(4)], ["home", "try", "wait", "wait"])
        run = with_thing(Book(fails="wait", shared=False), 5, [(0, 1)])
        run.move(2, 0, 1)
        self.assertEqual(words_to_the_end(run, 2), ["home", "try", "set", "off", "off"])

    def test_the_thing_of_a_take_that_fails_never_lives(self):
        for fails in ("undo", "leave"):
            run = run_on(Book(fails=fails), PARENTS, [(1, 0)])
            run.take(0, 2)
            words_to_the_end(run, 0)
            self.assert_same((run.things, run.lives(0), run.home(0)), (1, False, None))
            self.assert_fault(run, NotLiving, {"thing": 0}, ("give", 0, 0), ("move", 0, 0, 0), ("lift", 0, 0))
            run.set_limit(1, 5)
            self.assertEqual(taken(run, 0, 2), 1)
            self.assert_same((run.lives(0), run.lives(1), run.count(2)), (False, True, 1 if fails == "undo" else 2))


class TestStocks(RunChecks):

    def test_brought_and_used_up(self):
        run = run_on(Book(batch=3), PARENTS)
        run.take(0, 2)
        self.assertEqual([(run.step(0), run.stock(0)) for _ in range(4)],
                         [("try", None), ("try", None), ("try", None), ("live", (2, 2))])
        self.assertFalse(run.at_rest)
        self.assert_does(run, ("take", 0, 2), 1)
        self.assert_same([run.lives(1), run.home(1), run.stock(0), run.walk(0)], [True, 2, (2, 1), None])
        self.assert_does(run, ("take", 0, 2), 2)
        self.assert_same([run.lives(2), run.home(2), run.stock(0), run.walk(0), run.at_rest],
                         [True, 2, None, None, True])
        self.assertEqual(counts(run), [3, 3, 3, 0, 0, 0, 0])
        run.take(0, 2)
        self.assert_same(run.walk(0), ("take", 3, "try", 2))

    def test_a_stock_lets_no_limit_count(self):
        run = run_on(Book(batch=2), PARENTS)
        taken(run, 0, 2)
        for group in range(3):
            run.set_limit(group, -1)
        self.assertEqual(run.take(0, 2), 1)
        self.assert_same([run.lives(1), counts(run)[:3]], [True, [2, 2, 2]])

    def test_stocks_are_of_their_hands(self):
        run = run_on(Book(batch=2), PARENTS)
        for hand, group in ((0, 2), (1, 2), (2, 4)):
            taken(run, hand, group)
        self.assert_same([run.stock(hand) for hand in range(4)], [(2, 1), (2, 1), (4, 1), None])
        run.take(3, 2)
        self.assert_same(run.walk(3), ("take", 3, "try", 2))
        run.take(0, 2)
        self.assert_same([run.stock(hand) for hand in range(4)], [None, (2, 1), (4, 1), None])

    def test_no_stock_with_a_batch_of_one(self):
        run = run_on(Book(), PARENTS)
        taken(run, 0, 2)
        self.assertEqual((run.stock(0), run.at_rest), (None, True))

    def test_settled_by_its_own_hand(self):
        run = run_on(Book(batch=4, settles=False), PARENTS)
        taken(run, 0, 2)
        run.take(0, 2)
        run.settle(0)
        self.assertEqual([(run.step(0), counts(run)[:3]) for _ in range(3)],
                         [("off", [4, 4, 2]), ("off", [4, 2, 2]), ("off", [2, 2, 2])])
        self.assertTrue(run.at_rest)

    def test_settled_by_another_hand_if_its_group_is_struck(self):
        run = run_on(Book(batch=4), PARENTS)
        taken(run, 0, 3)
        run.strike(3)
        run.settle(9, 0)
        self.assert_same([run.stock(0), run.working(), run.step(9), counts(run)],
                         [None, [9], "off", [4, 4, 4, 1, 0, 0, 0]])
        run.take(0, 2)
        self.assertEqual(words_to_the_end(run, 9), ["off", "off", "off"])
        self.assertEqual(counts(run), [1, 1, 1, 1, 0, 0, 0])

    def test_other_walks_on_a_thing_by_stock(self):
        run = run_on(Book(batch=2), PARENTS)
        taken(run, 0, 2)
        run.take(0, 2)
        run.give(0, 1)
        self.assertEqual(words_to_the_end(run, 0), ["home", "off", "off", "off", "end"])
        self.assertEqual((counts(run)[:3], run.lives(0), run.lives(1)), ([1, 1, 1], True, False))

    def test_moves_and_gives_of_a_book_with_a_batch_are_of_one(self):
        run = run_on(Book(batch=5), PARENTS, [(5, 1)])
        taken(run, 0, 2)
        run.move(1, 0, 5)
        words_to_the_end(run, 1)
        self.assertEqual(counts(run), [5, 4, 4, 0, 1, 1, 0])
        run.give(1, 0)
        words_to_the_end(run, 1)
        self.assertEqual(counts(run), [4, 4, 4, 0, 0, 0, 0])


class TestOldHomes(RunChecks):

    def test_a_give_goes_along_the_home_that_it_has_remembered(self):
        run = with_thing(Book(give=("home", "off", "end"), move=("set",), **FREE), 5)
        run.do_all([("give", 1, 0), ("step", 1), ("move", 2, 0, 3), ("step", 2)])
        self.assertEqual(steps_of(run, 1), [("off", 5), ("off", 4), ("off", 0), ("end", None)])
        self.assert_same((run.lives(0), run.home(0)), (False, 3))

    def test_home_is_remembered_as_it_is_now(self):
        run = with_thing(Book(give=("home", "off", "end"), move=("set",), **FREE), 5)
        run.do_all([("give", 1, 0), ("move", 2, 0, 3), ("step", 2)])
        self.assertEqual(steps_of(run, 1)[1:], [("off", 3), ("off", 2), ("off", 1), ("off", 0), ("end", None)])

    def test_a_home_that_is_remembered_behind_set(self):
        run = with_thing(Book(move=("set", "home", "off"), **FREE), 5)
        run.move(1, 0, 1)
        self.assertEqual(steps_of(run, 1), [("set", None), ("home", None), ("off", 1), ("off", 0)])

    def test_a_move_that_shares_nothing_goes_by_the_home_that_it_has_remembered(self):
        book = Book(move=("home", "add", "set", "off"), shared=False, lift=("set",), **FREE)
        run = with_thing(book, 3)
        run.strike(3)
        run.do_all([("move", 1, 0, 1), ("lift", 2, 0), ("step", 2)])
        self.assertEqual(run.home(0), 2)
        self.assertEqual(steps_of(run, 1), [("home", None), ("set", None), ("off", 2)])
        run = with_thing(book, 3)
        run.strike(3)
        run.do_all([("move", 1, 0, 1), ("lift", 2, 0), ("step", 1), ("step", 2)])
        self.assertEqual(steps_of(run, 1), [("set", None), ("off", 3), ("off", 2)])

    def test_a_lift_goes_by_the_home_at_its_begin(self):
        for row in (("set", "off"), ("off", "set"), ("both",)):
            run = with_thing(Book(lift=row, move=("set",), **FREE), 3)
            run.strike(3)
            run.do_all([("lift", 1, 0), ("move", 2, 0, 5), ("step", 2)])
            words_to_the_end(run, 1)
            self.assertEqual((run.home(0), counts(run)), (2, [1, 1, 1, 0, 0, 0, 0]))

    def test_give_and_lift_count_one_too_few(self):
        run = with_thing(Book(holds=()), 3)
        run.strike(3)
        run.do_all([("give", 1, 0), ("step", 1), ("lift", 2, 0), ("step", 2)])
        words_to_the_end(run, 1)
        self.assertEqual(counts(run), [0, 0, 0, -1, 0, 0, 0])

    def test_groups_that_come_later_change_no_way(self):
        run = run_on(Book(), [0])
        run.take(0, 1)
        run.do_all([("group", 0), ("group", 1), ("group", 2)])
        self.assertEqual(steps_of(run, 0), [("try", 1), ("try", 0), ("live", None)])


class TestWalksGoOn(RunChecks):

    def test_behind_a_strike(self):
        run = run_on(Book(**FREE), [0, 0])
        run.take(0, 1)
        run.strike(1)
        self.assertEqual(words_to_the_end(run, 0), ["live", "add", "add"])
        self.assert_same((run.lives(0), run.home(0), run.tree.is_struck(1)), (True, 1, True))
        run.move(0, 0, 2)
        run.strike(2)
        self.assertEqual(words_to_the_end(run, 0), ["home", "try", "try", "set", "off", "off"])
        self.assert_same((run.home(0), counts(run)), (2, [1, 0, 1]))

    def test_a_struck_group_still_gets_a_stock(self):
        run = run_on(Book(batch=3), [0])
        run.take(0, 1)
        run.strike(1)
        words_to_the_end(run, 0)
        self.assert_same((run.lives(0), run.stock(0)), (True, (1, 2)))

    def test_behind_the_end_of_the_thing(self):
        book = Book(give=("end",), move=("home", "add", "set", "off"), lift=("set", "off"), **FREE)
        run = with_thing(book, 3)
        run.strike(3)
        run.do_all([("move", 1, 0, 5), ("lift", 2, 0), ("give", 3, 0), ("step", 3)])
        self.assert_same((run.lives(0), run.home(0), run.walk(3)), (False, 3, None))
        self.assertEqual(words_to_the_end(run, 1), ["home"] + ["add"] * 3 + ["set"] + ["off"] * 4)
        self.assert_same((run.lives(0), run.home(0)), (False, 5))
        self.assertEqual(words_to_the_end(run, 2), ["set", "off"])
        self.assert_same((run.lives(0), run.home(0), counts(run)), (False, 2, [1, 0, 0, -1, 1, 1, 0]))
        self.assert_fault(run, NotLiving, {"thing": 0}, ("give", 1, 0), ("move", 1, 0, 1), ("lift", 1, 0))

    def test_a_give_goes_on_beside_the_rest_of_a_take(self):
        run = run_on(Book(take=("live", "add"), holds=()), [0])
        run.do_all([("take", 0, 1), ("step", 0), ("give", 1, 0)])
        self.assertEqual(words_to_the_end(run, 1), ["home", "off", "off", "end"])
        self.assertEqual((words_to_the_end(run, 0), run.lives(0), counts(run)), (["add", "add"], False, [0, 0]))


class TestHolds(RunChecks):

    def with_walk(self, kind, holds):
        """A run in which a walk of the kind is under way on the thing 0, which lives in the struck group 3."""
        run = run_on(Book(take=("live", "add"), holds=holds), PARENTS)
        if kind == "take":
            run.do_all([("take", 0, 3), ("step", 0), ("strike", 3)])
        else:
            taken(run, 0, 3)
            run.strike(3)
            run.do({"give": ("give", 0, 0), "move": ("move", 0, 0, 5), "lift": ("lift", 0, 0)}[kind])
        return run

    def test_which_walks_begin_beside_which(self):
        sets = [holds for size in range(5) for holds in itertools.combinations(KINDS, size)]
        begun = {"give": ("give", 1, 0), "move": ("move", 1, 0, 4), "lift": ("lift", 1, 0)}
        for kind, holds, (other, deed) in itertools.product(KINDS, sets, begun.items()):
            run = self.with_walk(kind, holds)
            if kind == other:
                self.assert_fault(run, UnderWay, {"thing": 0, "kind": kind}, deed)
            elif kind in holds and other in holds:
                self.assert_fault(run, Held, {"thing": 0, "kind": kind}, deed)
            else:
                self.assert_does(run, deed, None)

    def test_a_walk_holds_until_it_is_over(self):
        run = with_thing(Book(), 5)
        run.move(0, 0, 1)
        for _ in range(7):
            self.assert_fault(run, Held, {"thing": 0, "kind": "move"}, ("give", 1, 0))
            run.step(0)
        self.assertIsNone(run.walk(0))
        self.assert_does(run, ("give", 1, 0), None)

    def test_a_walk_that_does_not_hold_begins_beside_all_others(self):
        run = with_thing(Book(holds=("move", "take")), 3)
        run.strike(3)
        run.do_all([("give", 1, 0), ("lift", 2, 0), ("move", 3, 0, 5)])
        self.assertEqual(run.working(), [1, 2, 3])

    def test_things_do_not_hold_each_other(self):
        run = with_thing(Book(), 5)
        self.assertEqual(taken(run, 0, 5), 1)
        run.do_all([("give", 1, 0), ("move", 2, 1, 1)])
        self.assertEqual(run.working(), [1, 2])

    def test_one_walk_waits_at_the_thing_for_nobody_else(self):
        run = with_thing(Book(fails="wait"), 5, [(1, 0)])
        run.move(2, 0, 1)
        self.assertEqual([run.step(2), run.step(2)], ["home", "wait"])
        self.assert_fault(run, Held, {"thing": 0, "kind": "move"}, ("give", 3, 0))


if __name__ == "__main__":
    unittest.main()
