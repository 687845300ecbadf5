"""Drawn runs: the real run and the plain one answer and tell the same, and the facts of the document hold."""

import random
import unittest

from chargeways.audits import charged, due, gap, sight, spare, wrong_groups
from chargeways.books import Book
from chargeways.runs import Run
from chargeways.states import START, deeds, due_at, is_rest, is_state, nexts
from common import FAILS, Checks, shown, taken, words_to_the_end
from drawn import answer, audited, draw_deed, drawn_pair, plainly_audited, units


class Steps:
    """Which states deeds of the table lead to, with which sums of weights."""

    def __init__(self, book):
        self.book = book
        self.found = {}

    def behind(self, state):
        if state not in self.found:
            self.found[state] = [(weight, after) for _, weight, after in deeds(self.book, state)]
        return self.found[state]

    def lead(self, state, end, weight, most=5):
        """Whether at most so many deeds lead from the state to the end, with this sum."""
        level = {(state, 0)}
        for _ in range(most + 1):
            if (end, weight) in level:
                return True
            level = {(after, total + more) for now, total in level for more, after in self.behind(now)}
        return False


def sights(run):
    """Of each group other than the top and each unit: the sight, and what one charge of it charges there."""
    found = {}
    for group in range(1, len(run.tree)):
        for unit in units(run):
            many = 1 if isinstance(unit, int) else run.stock(unit[1])[1]
            found[group, unit] = (sight(run, group, unit), charged(run, group, unit) // many)
    return found


def walking_things(run):
    """Which thing each hand that takes is taking."""
    return {hand: run.walk(hand)[1] for hand in run.working() if run.walk(hand)[0] == "take"}


def at_rest_at_last(run):
    """Do all walks to their ends, settle all stocks."""
    for _ in range(3):
        for hand in run.working():
            words_to_the_end(run, hand)
        for _, hand in [unit for unit in units(run) if not isinstance(unit, int)]:
            run.settle(hand)
    assert run.at_rest


class TestDrawnRuns(Checks):

    def test_the_plain_run_answers_the_same(self):
        answers = {}
        for seed in range(250):
            for run, plain, deed, got, wanted in drawn_pair(random.Random(seed), 150):
                self.assertEqual(repr(got), repr(wanted), (seed, deed))
                self.assertEqual(repr(shown(run)), repr(plain.shown()), (seed, deed))
                word = got[1] if deed and isinstance(deed, tuple) and deed[0] == "step" else got[0]
                told = word if isinstance(word, str) else got[0]
                answers[told] = answers.get(told, 0) + 1
        for told in ("look", "add", "try", "off", "live", "home", "set", "end", "both", "undo", "fail", "wait", "done",
                     "InvalidGroup", "InvalidHand", "InvalidThing", "InvalidDeed", "IsTop", "Struck", "HasChildren",
                     "AtWork", "MustSettle", "NoRow", "NotLiving", "NotStruck", "UnderWay", "Held", "NoStock",
                     "NotYours"):
            self.assertGreater(answers.get(told, 0), 0, told)

    def test_the_plain_run_is_audited_the_same(self):
        for seed in range(1000, 1070):
            for run, plain, deed, got, _ in drawn_pair(random.Random(seed), 100, wrong=0):
                if got[0] == "done":
                    self.assertEqual(repr(audited(run)), repr(plainly_audited(plain)), (seed, deed))

    def test_counts_are_the_sum_of_what_is_charged_and_of_the_spare(self):
        for seed in range(2000, 2080):
            for run, _, deed, got, _ in drawn_pair(random.Random(seed), 120, wrong=0):
                if got[0] == "done":
                    for group in range(len(run.tree)):
                        found = [charged(run, group, unit) for unit in units(run)]
                        self.assertEqual(run.count(group), sum(found) + spare(run, group), (seed, deed, group))

    def test_wrong_groups_at_rest(self):
        wrong = 0
        for seed in range(3000, 3040):
            for run, _, _, _, _ in drawn_pair(random.Random(seed), 60, wrong=0):
                pass
            for group in range(len(run.tree)):
                run.set_limit(group, None)
            at_rest_at_last(run)
            gaps = [group for group in range(len(run.tree)) if run.count(group) != due(run, group)]
            self.assertEqual(wrong_groups(run), gaps)
            self.assertEqual([group for group in range(len(run.tree)) if gap(run, group) != 0], gaps)
            for group in range(1, len(run.tree)):
                states = [sight(run, group, thing) for thing in range(run.things)]
                self.assertTrue(all(is_rest(run.book, state) for state in states), seed)
                self.assertEqual(sum(due_at(run.book, state) for state in states), due(run, group))
            wrong += gaps != []
        self.assertGreater(wrong, 5)

    def test_each_deed_turns_each_sight_by_deeds_of_the_table(self):
        turned = 0
        for seed in range(4000, 4120):
            before, groups, things, steps = {}, 0, {}, None
            for run, _, deed, got, _ in drawn_pair(random.Random(seed), 120, wrong=0):
                if got[0] != "done":
                    continue
                steps = steps or Steps(run.book)
                after = sights(run)
                for (group, unit), (state, charge) in after.items():
                    self.assertTrue(is_state(run.book, state), (seed, state))
                    if group <= groups:
                        first, old = self.sight_ahead(before, run, deed, things, group, unit)
                        self.assertTrue(steps.lead(first, state, charge - old), (seed, deed, group, unit))
                        turned += first != state
                before, groups, things = after, len(run.tree) - 1, walking_things(run)
        self.assertGreater(turned, 5000)

    def sight_ahead(self, before, run, deed, things, group, unit):
        """The sight of the unit ahead of the deed, and what it charged then."""
        if (group, unit) in before:
            return before[group, unit]
        if isinstance(unit, tuple):
            # a charge of a stock has come with the thing that its hand was taking
            return before[group, things[unit[1]]]
        if (group, ("stock", deed[1])) in before:
            return before[group, ("stock", deed[1])]
        return (int(run.tree.is_struck(group)), *START[1:]), 0

    def test_each_sight_is_in_the_table(self):
        for seed in range(5000, 5012):
            table = None
            for run, _, _, got, _ in drawn_pair(random.Random(seed), 120, wrong=0):
                if table is None:
                    table = {START}
                    to_do = [START]
                    while to_do:
                        behind = [state for state in nexts(run.book, to_do.pop()) if state not in table]
                        table.update(behind)
                        to_do.extend(behind)
                    self.assertTrue(all(is_state(run.book, state) for state in table))
                if got[0] == "done":
                    for group in range(1, len(run.tree)):
                        for unit in units(run):
                            self.assertIn(sight(run, group, unit), table)

    def test_runs_of_one_book_in_deep_trees(self):
        for seed, fails in enumerate(FAILS):
            draw = random.Random(seed)
            book = Book(fails=fails, shared=False, batch=2, holds=("move", "give"))
            run = Run(book)
            for group in range(30):
                run.new_group(max(0, group - draw.randrange(3)))
            for hand in range(6):
                taken(run, hand, draw.randrange(31))
            for _ in range(300):
                answer(run, draw_deed(draw, run, hands=8, wrong=0))
            for group in range(len(run.tree)):
                found = [charged(run, group, unit) for unit in units(run)]
                self.assertEqual(run.count(group), sum(found) + spare(run, group))


if __name__ == "__main__":
    unittest.main()
