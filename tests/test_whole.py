"""What the document promises over the whole program: tables and runs tell the same, and papers hold what is told."""

import random
import unittest

from books import kept_books, small_book
from chargeways.audits import charged, gap, sight, wrong_groups
from chargeways.books import Book
from chargeways.charts import chart_of, shortest_ways, way_by
from chargeways.claims import is_paper, is_true, paper_for
from chargeways.desk import Desk
from chargeways.forms import most_above
from chargeways.holds import least_holds
from chargeways.runs import Run
from chargeways.states import is_rest
from chargeways.stories import Story, told_part
from chargeways.tables import excess, keeps, sums
from chargeways.texts import line_of, read_book, text_of
from chargeways.traps import is_sure
from common import Checks, words_to_the_end
from drawn import answer, draw_deed, units


def charge_of_one(run, group, unit):
    found = charged(run, group, unit)
    return found if isinstance(unit, int) else found // run.stock(unit[1])[1]


class TestTablesAndRuns(Checks):

    def test_what_things_and_stocks_charge_is_within_the_sums(self):
        draw = random.Random(71)
        least, greatest = {}, {}
        for _ in range(40):
            book = small_book(draw, 800, {})
            ends, run = sums(book), Run(book)
            for _ in range(80):
                answer(run, draw_deed(draw, run, wrong=0))
                for group in range(1, len(run.tree)):
                    for unit in units(run):
                        one, (low, high) = charge_of_one(run, group, unit), ends[sight(run, group, unit)]
                        self.assertTrue((low is None or low <= one) and (high is None or one <= high))
                        least[one == low] = greatest[one == high] = True
        self.assertEqual([sorted(least), sorted(greatest)], [[False, True]] * 2)

    def test_each_state_is_had_by_some_run(self):
        draw = random.Random(72)
        for book in [Book(), Book(batch=2, move=(), fails="leave"), *kept_books(73, 4, shared=True),
                     *[small_book(draw, 260, {"shared": True}) for _ in range(12)]]:
            ways = shortest_ways(told_part(book, chart_of(book)))
            found = {}
            for end in ways:
                way = way_by(ways, end)
                if all(deed == ("strike",) for _, deed, _ in way):
                    # there is no thing yet
                    continue
                story = Story(book, way)
                self.assertEqual(sight(story.run, story.group, story.unit()), end, (book, way))
                found[end] = True
            self.assertGreater(len(found), len(ways) // 2)

    def test_excess_is_met_and_not_passed(self):
        draw = random.Random(74)
        for _ in range(30):
            book = small_book(draw, 600, {"batch": 1})
            run = Run(book)
            for _ in range(70):
                answer(run, draw_deed(draw, run, wrong=0))
            for group in range(len(run.tree)):
                run.set_limit(group, None)
            for hand in run.working():
                words_to_the_end(run, hand)
            for group in range(1, len(run.tree)):
                for thing in range(run.things):
                    state = sight(run, group, thing)
                    self.assertTrue(is_rest(book, state))
                    over = charged(run, group, thing) - (1 if state[1] == 1 and state[2] < 3 else 0)
                    for wish, number in (("once", over), ("kept", -over)):
                        most = excess(book, wish)
                        self.assertTrue(most is None or number <= most)

    def test_books_that_keep_both_have_no_wrong_group_at_rest(self):
        draw = random.Random(75)
        for book in kept_books(76, 15):
            run = Run(book)
            for _ in range(100):
                answer(run, draw_deed(draw, run, wrong=0))
            for group in range(len(run.tree)):
                run.set_limit(group, None)
            for _ in range(2):
                for hand in range(100):
                    words_to_the_end(run, hand)
                    if run.stock(hand) is not None:
                        run.settle(hand)
            self.assert_same([run.at_rest, wrong_groups(run), gap(run, 0)], [True, [], 0])


class TestClaimsAndDesks(Checks):

    def test_all_that_is_told_of_a_book_has_a_paper(self):
        for book in kept_books(77, 12):
            text = text_of(book)
            self.assertEqual(read_book(text), book)
            for wish in ("once", "kept", "free", "gone"):
                kept = keeps(book, wish) if wish in ("once", "kept") else is_sure(book, wish)
                for word in ("keeps", "breaks"):
                    claim = {"claim": word, "book": text, "wish": wish}
                    self.assertIs(is_true(claim), kept == (word == "keeps"))
                    if is_true(claim):
                        self.assertIs(is_paper(claim, paper_for(claim)), True)
            if most_above(book, 2) is None:
                self.assertIs(is_true({"claim": "endless", "book": text}), True)

    def test_a_bad_run_at_a_desk(self):
        book = Book(move=(), holds=())
        claim = {"claim": "breaks", "book": text_of(book), "wish": "kept"}
        lines = paper_for(claim)
        one = Desk.from_log(book, lines)
        self.assertEqual(one.log(), lines)
        self.assertEqual(one.do("work"), "none")
        groups = [line for line in lines if line.startswith("group ")]
        below = [number for number in range(1, len(groups) + 1)
                 if int(one.do(f"count {number}")) < int(one.do(f"due {number}"))]
        self.assertNotEqual(below, [])
        for number in range(len(groups) + 1):
            told = {"claim": "counts", "book": text_of(book), "deeds": lines, "group": number,
                    "count": int(one.do(f"count {number}"))}
            self.assertIs(is_true(told), True)

    def test_least_holds_are_what_keeps_a_book(self):
        for book in (Book(move=()), Book()):
            for holds in least_holds(book, ["once", "kept"]):
                found = book.with_holds(holds)
                self.assert_same([keeps(found, "once"), keeps(found, "kept"), book.is_as_strict(found)], [True] * 3)
                for kind in holds:
                    less = book.with_holds([other for other in holds if other != kind])
                    self.assertIs(keeps(less, "once") and keeps(less, "kept"), False)

    def test_the_overview(self):
        """A give that has remembered the home, and a lift, both take the charge off; a move waits for itself."""
        one = Desk(Book(move=(), holds=()))
        one.do_all("group 0", "take 0 1", "step 0", "step 0", "step 0", "give 0 0", "step 0", "strike 1", "lift 1 0",
                   "step 1", "step 0", "step 0", "step 0")
        self.assert_same([one.do("count 1"), one.do("due 1"), one.do("home 0")], ["-1", "0", "gone"])
        one = Desk(Book(fails="wait"))
        one.do_all("group 0", "group 0", "limit 0 1", "take 0 1", "step 0", "step 0", "step 0", "move 0 0 2", "step 0",
                   "step 0")
        self.assert_same([one.do("step 0") for _ in range(3)], ["wait"] * 3)
        self.assert_same(one.do_all("count 0", "count 2", "work"), ["1", "1", "0"])
        self.assert_same(line_of(("step", 0)), "step 0")


if __name__ == "__main__":
    unittest.main()
