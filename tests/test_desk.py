"""The desk: its commands and answers, commands that fail, several at once, the log, and desks made of logs."""

import inspect
import random
import unittest

from chargeways import desk
from chargeways.audits import due
from chargeways.books import Book
from chargeways.desk import Desk
from chargeways.errors import (AtWork, CommandFailed, HasChildren, Held, InvalidCommand, InvalidGroup, InvalidHand,
                               InvalidThing, IsTop, LimitError, MustSettle, NoRow, NoStock, NothingToUndo, NotLiving,
                               NotStruck, NotYours, NoWalk, StandError, Struck, TooMany, UnderWay, WayError)
from chargeways.runs import Run
from chargeways.texts import line_of
from common import Checks, draw_book
from drawn import draw_deed
from test_texts import NO_LINES, NO_STRINGS

QUESTIONS = ["count 0", "due 0", "home 0", "stock 0", "work", "undo"]

NO_QUESTIONS = ["count", "count ", " count 0", "count 0 ", "count  0", "count 0 0", "count none", "count -0", "count 00",
                "count 01", "count +1", "count a", "count 1.0", "Count 0", "counts 0", "count\n0", "count 0\n", "due",
                "due none", "due 0 0", "due -0", "home", "home none", "home 0 0", "home gone", "home 01", "stock",
                "stock none", "stock 0 0", "stock -", "work 0", "work none", "work ", " work", "Work", "work\n", "works",
                "undo 0", "undo ", "undo undo", "Undo", "undone", "log", "gap 0", "spare 0", "walk 0", "limit_of 0",
                "lives 0", "tree", "things", "at_rest", "copy", "do step 0"]

NO_COMMANDS = [line for line in NO_LINES if line not in QUESTIONS] + NO_QUESTIONS + NO_STRINGS + [("step", 0)]

# a run with a group 1, the hand 0 behind a take with a stock, the hand 1 in a give of the thing 0, the group 2 struck
BUSY = ["group 0", "group 1", "take 0 1", "step 0", "step 0", "step 0", "group 0", "strike 2", "give 1 0"]


def busy():
    found = Desk(Book(batch=3, move=()))
    found.do_all(*BUSY)
    return found


def shown(one):
    """All that a desk tells of itself."""
    found = [one.log(), one.do("work")]
    for question in ("count", "due", "home", "stock"):
        for number in range(8):
            try:
                found.append(one.do(f"{question} {number}"))
            except WayError as error:
                found.append((type(error).__name__, error.value))
    return found


class DeskChecks(Checks):

    def assert_fault(self, one, error, values, command):
        """The command raises just this error, also as one of several, and nothing changes."""
        before = shown(one)
        self.assert_raises(error, values, one.do, command)
        for ahead in ([], ["limit 0 99"], ["limit 0 99", "count 0", "limit 1 5", "work"]):
            for call in (one.do_all, one.attempt):
                raised = self.assert_raises(CommandFailed, {"position": len(ahead)}, call, *ahead, command, "group 0", "x")
                self.assertIs(type(raised.__cause__), error)
                for name, value in values.items():
                    self.assert_same(getattr(raised.__cause__, name), value)
                self.assert_same(shown(one), before)

    def assert_answers(self, one, *pairs):
        for command, answer in pairs:
            self.assert_same(one.do(command), answer)


class TestInterface(DeskChecks):

    def test_the_class(self):
        self.assertEqual(Desk.__module__, "chargeways.desk")
        self.assertEqual(Desk.__mro__, (Desk, object))
        for name in ("do", "do_all", "attempt", "log", "from_log"):
            self.assertIn(name, vars(Desk))
        self.assertIsInstance(vars(Desk)["from_log"], classmethod)
        for name, wanted in (("do", "(self, command)"), ("do_all", "(self, *commands)"),
                             ("attempt", "(self, *commands)"), ("log", "(self)")):
            self.assertEqual(str(inspect.signature(getattr(desk.Desk, name))), wanted)
        self.assertEqual(str(inspect.signature(Desk.from_log)), "(book, lines)")
        self.assertEqual(str(inspect.signature(Desk)), "(book)")

    def test_example(self):
        found = Desk(Book(batch=3)).do_all("group 0", "take 0 1", "step 0", "step 0", "step 0", "stock 0", "count 0",
                                           "due 1", "work")
        self.assert_same(found, ["1", "0", "try", "try", "live", "1 2", "3", "1", "none"])

    def test_by_name(self):
        one = Desk(book=Book())
        self.assert_same([one.do(command="group 0"), one.log(), Desk.from_log(lines=["group 0"], book=Book()).log()],
                         ["1", ["group 0"], ["group 0"]])


class TestCommands(DeskChecks):

    def test_each_deed(self):
        self.assert_answers(Desk(Book(batch=2)), (
            "group 0", "1"), ("group 1", "2"), ("limit 2 7", "done"), ("limit 2 none", "done"), ("limit 0 -3", "done"),
            ("limit 0 10", "done"), ("take 5 2", "0"), ("step 5", "try"), ("step 5", "try"), ("step 5", "try"),
            ("step 5", "live"), ("take 5 2", "1"), ("take 5 1", "2"), ("step 5", "try"), ("step 5", "try"),
            ("step 5", "live"), ("strike 2", "done"), ("lift 1 0", "done"), ("step 1", "both"), ("move 1 0 0", "done"),
            ("step 1", "home"), ("step 1", "try"), ("step 1", "set"), ("step 1", "off"), ("step 1", "off"),
            ("give 1 0", "done"), ("step 1", "home"), ("step 1", "off"), ("step 1", "end"), ("settle 5 5", "done"),
            ("step 5", "off"), ("group 0", "3"))

    def test_steps_that_fail_or_wait(self):
        for fails, answers in (("undo", ["fail", "undo"]), ("leave", ["fail"]), ("wait", ["wait", "wait"])):
            one = Desk(Book(fails=fails))
            one.do_all("group 0", "limit 0 0", "take 0 1", "step 0")
            self.assert_same([one.do("step 0") for _ in answers], answers)
            self.assertEqual(one.log()[4:], ["step 0"] * (0 if fails == "wait" else len(answers)))

    def test_counts_and_dues(self):
        one = Desk(Book(batch=3, give=("end",)))
        one.do_all("group 0", "group 1", "group 0", "take 0 2", "step 0")
        self.assert_answers(one, ("count 2", "3"), ("count 1", "0"), ("due 2", "0"))
        one.do_all("step 0", "step 0", "step 0", "give 1 0")
        self.assert_answers(one, ("count 0", "3"), ("count 3", "0"), ("due 0", "1"), ("due 2", "1"), ("due 3", "0"))
        one.do("step 1")
        self.assert_answers(one, ("count 0", "3"), ("due 0", "0"), ("due 2", "0"))
        one.do_all("settle 0 0", "step 0")
        self.assert_answers(one, ("count 2", "1"), ("count 1", "3"))

    def test_counts_before_and_behind_each_deed(self):
        one = Desk(Book(batch=3))
        self.assert_same(one.do("count 0"), "0")
        self.assert_raises(InvalidGroup, {"value": 1}, one.do, "count 1")
        one.do_all("group 0", "group 1")
        # the counts of the groups 0, 1 and 2 behind the command
        for command, answer, counts in (
                ("work", "none", ["0", "0", "0"]), ("take 0 2", "0", ["0", "0", "0"]), ("step 0", "try", ["0", "0", "3"]),
                ("step 0", "try", ["0", "3", "3"]), ("step 0", "try", ["3", "3", "3"]), ("step 0", "live", ["3", "3", "3"]),
                ("take 0 2", "1", ["3", "3", "3"]), ("strike 2", "done", ["3", "3", "3"]),
                ("lift 1 0", "done", ["3", "3", "3"]), ("step 1", "both", ["3", "3", "2"]),
                ("settle 3 0", "done", ["3", "3", "2"]), ("step 3", "off", ["3", "3", "1"]),
                ("step 3", "off", ["3", "2", "1"]), ("step 3", "off", ["2", "2", "1"]),
                ("lift 1 1", "done", ["2", "2", "1"]), ("step 1", "both", ["2", "2", "0"]),
                ("undo", "step 1", ["2", "2", "1"]), ("step 1", "both", ["2", "2", "0"]),
                ("strike 1", "done", ["2", "2", "0"]), ("lift 1 1", "done", ["2", "2", "0"]),
                ("step 1", "both", ["2", "1", "0"]), ("give 0 0", "done", ["2", "1", "0"]),
                ("step 0", "home", ["2", "1", "0"]), ("step 0", "off", ["2", "0", "0"]),
                ("step 0", "off", ["1", "0", "0"]), ("step 0", "end", ["1", "0", "0"])):
            asked = [command, "count 0", "count 1", "count 2"]
            self.assert_same(one.attempt(*asked), [answer, *counts])
            self.assert_same(one.do_all(*asked), [answer, *counts])
            self.assert_same([one.do(question) for question in asked[1:]], counts)
            for wrong in ("count", "count 0 0", "count 0 1 2"):
                self.assert_raises(InvalidCommand, {"value": wrong}, one.do, wrong)
        self.assert_fault(one, InvalidGroup, {"value": 3}, "count 3")

    def test_a_count_below_0(self):
        one = Desk(Book(holds=()))
        one.do_all("group 0", "group 1", "take 0 2", *["step 0"] * 4, "give 0 0", "step 0", "strike 2", "lift 1 0", "step 1",
                   "step 0")
        self.assert_answers(one, ("count 2", "-1"), ("due 2", "0"), ("due 1", "1"))

    def test_homes(self):
        one = Desk(Book())
        one.do_all("group 0", "group 1", "take 0 2")
        self.assert_answers(one, ("home 0", "none"), ("step 0", "try"), ("home 0", "none"))
        one.do_all("step 0", "step 0", "step 0")
        self.assert_answers(one, ("home 0", "2"))
        one.do_all("strike 2", "lift 0 0", "step 0")
        self.assert_answers(one, ("home 0", "1"))
        one.do_all("give 0 0", *["step 0"] * 3)
        self.assert_answers(one, ("home 0", "1"), ("step 0", "end"), ("home 0", "gone"))
        one.do_all("limit 0 0", "take 0 0", "step 0")
        self.assert_answers(one, ("home 1", "none"), ("work", "none"))

    def test_stocks(self):
        one = Desk(Book(batch=3))
        self.assert_answers(one, ("stock 0", "none"), ("stock 99", "none"))
        one.do_all("group 0", "take 12 1", *["step 12"] * 3)
        self.assert_answers(one, ("stock 12", "1 2"), ("stock 1", "none"), ("take 12 1", "1"), ("stock 12", "1 1"),
                            ("take 12 1", "2"), ("stock 12", "none"), ("work", "none"))

    def test_work(self):
        one = Desk(Book())
        self.assert_same(one.do("work"), "none")
        one.do_all("take 10 0", "take 9 0", "take 99 0", "take 0 0")
        self.assert_same(one.do("work"), "0 9 10 99")
        one.do_all("step 9", "step 9")
        self.assert_same(one.do("work"), "0 10 99")

    def test_values_that_are_no_commands(self):
        one = busy()
        before = shown(one)
        for value in NO_COMMANDS:
            self.assert_raises(InvalidCommand, {"value": value}, one.do, value)
            for call in (one.do_all, one.attempt):
                raised = self.assert_raises(CommandFailed, {"position": 1}, call, "work", value)
                self.assertIs(type(raised.__cause__), InvalidCommand)
                self.assertIs(raised.__cause__.value, value)
        self.assert_same(shown(one), before)

    def test_errors_of_deeds(self):
        one = busy()
        for command, error, values in (
                ("group 4", InvalidGroup, {"value": 4}), ("group -1", InvalidGroup, {"value": -1}),
                ("group 2", Struck, {"group": 2}), ("limit 9 none", InvalidGroup, {"value": 9}),
                ("strike 0", IsTop, {}), ("strike 2", Struck, {"group": 2}), ("strike 9", InvalidGroup, {"value": 9}),
                ("take 100 0", InvalidHand, {"value": 100}), ("take 3 7", InvalidGroup, {"value": 7}),
                ("take 1 0", AtWork, {"hand": 1}), ("take 3 2", Struck, {"group": 2}), ("take 0 3", MustSettle, {"hand": 0}),
                ("give -5 0", InvalidHand, {"value": -5}), ("give 3 1", InvalidThing, {"value": 1}),
                ("give 3 0", UnderWay, {"thing": 0, "kind": "give"}), ("give 0 0", MustSettle, {"hand": 0}),
                ("move 3 0 1", NoRow, {"kind": "move"}), ("move 3 0 9", InvalidGroup, {"value": 9}),
                ("lift 3 0", NotStruck, {"group": 1}), ("lift 3 9", InvalidThing, {"value": 9}),
                ("settle 3 3", NoStock, {"hand": 3}), ("settle 3 0", NotYours, {"hand": 0}),
                ("settle 3 100", InvalidHand, {"value": 100}), ("step 3", NoWalk, {"hand": 3}),
                ("step 1" + "0" * 38, InvalidHand, {"value": 10 ** 38})):
            self.assert_fault(one, error, values, command)
        one.do_all("strike 1", *["step 1"] * 3)
        self.assert_fault(one, Held, {"thing": 0, "kind": "give"}, "lift 3 0")
        one.do("step 1")
        self.assert_fault(one, NotLiving, {"thing": 0}, "give 3 0")

    def test_a_group_with_children(self):
        one = Desk(Book())
        one.do_all("group 0", "group 1")
        self.assert_fault(one, HasChildren, {"group": 1}, "strike 1")

    def test_errors_of_questions(self):
        one = busy()
        for word, error, wrong in (("count", InvalidGroup, [-1, 4, 200, 10 ** 39]), ("due", InvalidGroup, [-1, 4, 10 ** 39]),
                                   ("home", InvalidThing, [-1, 1, 10 ** 39]), ("stock", InvalidHand, [-1, 100, 10 ** 39])):
            for number in wrong:
                self.assert_fault(one, error, {"value": number}, f"{word} {number}")

    def test_too_many(self):
        one = Desk(Book(batch=50))
        one.do_all(*["group 0"] * 196)
        one.do_all(*["group 0"] * 3)
        self.assert_raises(TooMany, {"what": "groups", "limit": 200}, one.do, "group 5")
        raised = self.assert_raises(CommandFailed, {"position": 0}, one.do_all, "group 5")
        self.assertIs(type(raised.__cause__), TooMany)
        self.assertTrue(issubclass(TooMany, LimitError) and issubclass(CommandFailed, StandError))


class TestUndo(DeskChecks):

    def test_each_deed_is_taken_back(self):
        one = busy()
        log = one.log()
        self.assertEqual(log, BUSY)
        for line in reversed(BUSY):
            self.assert_same(one.do("undo"), line)
            log.pop()
            self.assert_same(one.log(), log)
        self.assert_raises(NothingToUndo, {}, one.do, "undo")
        raised = self.assert_raises(CommandFailed, {"position": 2}, one.do_all, "group 0", "undo", "undo")
        self.assertIs(type(raised.__cause__), NothingToUndo)
        self.assert_same(shown(one), shown(Desk(Book(batch=3, move=()))))

    def test_lines_of_deeds(self):
        one = Desk(Book())
        for command in ("limit 0 none", "limit 0 -12", "group 0", "take 0 1"):
            one.do(command)
            self.assert_same(one.do("undo"), command)
            one.do(command)
        self.assert_same(one.log(), ["limit 0 none", "limit 0 -12", "group 0", "take 0 1"])

    def test_among_other_commands(self):
        one = Desk(Book())
        self.assert_same(one.do_all("group 0", "undo", "group 0", "take 0 1", "undo", "work", "undo"),
                         ["1", "group 0", "1", "0", "take 0 1", "none", "group 0"])
        self.assert_same(one.log(), [])
        one.do_all("group 0", "group 1")
        before = shown(one)
        raised = self.assert_raises(CommandFailed, {"position": 4}, one.do_all, "undo", "undo", "limit 0 5", "undo", "undo")
        self.assertIs(type(raised.__cause__), NothingToUndo)
        self.assert_same(shown(one), before)
        self.assert_same(one.attempt("undo", "undo", "group 0"), ["group 1", "group 0", "1"])
        self.assert_same(shown(one), before)


class TestSeveral(DeskChecks):

    def test_all_or_none(self):
        one = busy()
        before = shown(one)
        commands = ["group 0", "take 4 3", "work", "count 1", "step 4", "undo", "home 1"]
        wanted = ["4", "1", "1 4", "3", "try", "step 4", "none"]
        self.assert_same(one.attempt(*commands), wanted)
        self.assert_same(shown(one), before)
        for position in range(len(commands) + 1):
            for call in (one.do_all, one.attempt):
                told = commands[:position] + ["step 50"] + commands[position:]
                raised = self.assert_raises(CommandFailed, {"position": position}, call, *told)
                self.assertIs(type(raised.__cause__), NoWalk)
                self.assert_same(shown(one), before)
        self.assert_same(one.do_all(*commands), wanted)
        self.assertEqual(one.log(), BUSY + ["group 0", "take 4 3"])

    def test_none(self):
        one = busy()
        self.assert_same([one.do_all(), one.attempt(), one.log()], [[], [], BUSY])

    def test_lists_are_new(self):
        one = busy()
        one.log().clear()
        one.do_all("work").clear()
        self.assertEqual(one.log(), BUSY)

    def test_a_desk_goes_on_behind_what_failed(self):
        one, other = busy(), busy()
        for call in (one.do_all, one.attempt):
            self.assert_raises(CommandFailed, {"position": 2}, call, "undo", "undo", "step 66")
        for command in ("step 1", "step 1", "take 0 1", "group 0", "undo"):
            self.assert_same(one.do(command), other.do(command))
        self.assert_same(shown(one), shown(other))

    def test_two_desks_share_nothing(self):
        book = Book(batch=3, move=())
        one, other = Desk(book), Desk(book)
        one.do_all(*BUSY)
        self.assert_same(shown(other), shown(Desk(book)))
        copy = Desk.from_log(book, one.log())
        copy.do_all("step 1", "group 0")
        one.do("undo")
        self.assert_same([one.log(), copy.log(), other.log()], [BUSY[:-1], BUSY + ["step 1", "group 0"], []])


class TestLogs(DeskChecks):

    def test_a_desk_of_a_log_goes_on_as_the_first_one(self):
        for seed in range(25):
            draw = random.Random(seed)
            book = draw_book(draw)
            one, run = Desk(book), Run(book)
            for _ in range(60):
                deed = draw_deed(draw, run, wrong=0)
                self.assert_told_alike(one, run, deed)
            self.assert_same(one.log(), [line_of(deed) for deed in run.log()])
            other = Desk.from_log(book, one.log())
            self.assert_same(shown(other), shown(one))
            for _ in range(30):
                deed = draw_deed(draw, run, wrong=0)
                self.assert_told_alike(other, run.copy(), deed)
                self.assert_told_alike(one, run, deed)
            self.assert_same(shown(other), shown(one))
            for _ in range(len(one.log())):
                self.assert_same(one.do("undo"), other.do("undo"))

    def assert_told_alike(self, one, run, deed):
        """The desk answers what the run returns, or raises what it raises; both tell the same then."""
        try:
            told = run.do(deed)
        except (WayError, StandError, LimitError) as error:
            self.assert_raises(type(error), vars(error), one.do, line_of(deed))
        else:
            self.assert_same(one.do(line_of(deed)), str(told) if deed[0] in ("group", "take", "step") else "done")
        for group in range(len(run.tree)):
            self.assert_same(one.do_all(f"count {group}", f"due {group}"), [str(run.count(group)), str(due(run, group))])
        self.assert_same(one.do("work"), " ".join(str(hand) for hand in run.working()) or "none")

    def test_lists_of_lines(self):
        book = Book(batch=3, move=())
        for lines in (BUSY, tuple(BUSY)):
            found = Desk.from_log(book, lines)
            self.assertIs(type(found), Desk)
            self.assert_same(found.log(), BUSY)
        self.assert_same(Desk.from_log(book, []).log(), [])

    def test_lines_that_fail(self):
        book = Book(batch=3, move=())
        for position in range(len(BUSY) + 1):
            for line, error in (("step 50", NoWalk), ("strike 0", IsTop), ("group 9", InvalidGroup), ("group -0", InvalidCommand),
                                ("count 0", InvalidCommand), ("work", InvalidCommand), ("undo", InvalidCommand),
                                ("", InvalidCommand), (None, InvalidCommand), (("group", 0), InvalidCommand)):
                lines = BUSY[:position] + [line] + BUSY[position:]
                raised = self.assert_raises(CommandFailed, {"position": position}, Desk.from_log, book, lines)
                self.assertIs(type(raised.__cause__), error)
                if error is InvalidCommand:
                    self.assertEqual(raised.__cause__.value, line)
        # the first one that fails counts
        raised = self.assert_raises(CommandFailed, {"position": 1}, Desk.from_log, book, ["group 0", "step 0", "work"])
        self.assertIs(type(raised.__cause__), NoWalk)
        raised = self.assert_raises(CommandFailed, {"position": 0}, Desk.from_log, book, ["work", "step 0"])
        self.assertIs(type(raised.__cause__), InvalidCommand)

    def test_steps_that_wait_are_let(self):
        found = Desk.from_log(Book(fails="wait"), ["limit 0 0", "take 0 0", "step 0", "step 0"])
        self.assert_same(found.log(), ["limit 0 0", "take 0 0"])


if __name__ == "__main__":
    unittest.main()
