"""What several files of tests share: checks of errors, values of many kinds, and all rows that a book may have."""

import itertools
import unittest

from chargeways.books import Book
from chargeways.errors import WayError
from chargeways.runs import Run

KINDS = ("take", "give", "move", "lift")

NO_INTEGERS = [True, False, None, "", "0", "1", b"1", [], [0], (), (0,), {}, {0: 0}, {0}, object(), len, int]

NO_LISTS = [None, True, False, 0, 1, "", "0", b"", {}, {0: 0}, {0}, set(), object(), range(1), iter([0]), list]

NO_HANDS = NO_INTEGERS + [-1, 100, 101, -10 ** 30, 10 ** 30]


class Checks(unittest.TestCase):

    def assert_raises(self, error, values, call, *args, **named):
        """The call raises just this error, with these values, told True from 1 and False from 0."""
        with self.assertRaises(error) as held:
            call(*args, **named)
        self.assertIs(type(held.exception), error)
        for name, value in values.items():
            told = getattr(held.exception, name)
            self.assertEqual(told, value)
            self.assertIs(type(told), type(value))
        return held.exception

    def assert_same(self, got, wanted):
        """Equal, and of the same kinds all the way in: True is not 1, a list is not a tuple."""
        self.assertEqual(repr(got), repr(wanted))
        self.assertEqual(got, wanted)


def rows_of(kind):
    """All rows that a book may have for the kind."""
    words = {"take": ("look", "add", "try", "live"), "give": ("home", "off", "end"),
             "move": ("home", "look", "add", "try", "set", "off"), "lift": ("set", "off", "both")}
    found = []
    for size in range(len(words[kind]) + 1):
        for row in itertools.permutations(words[kind], size):
            try:
                Book(**{kind: row})
            except WayError:
                continue
            found.append(row)
    return found


ROWS = {kind: rows_of(kind) for kind in KINDS}

FAILS = ("undo", "leave", "wait")


def fits(parts):
    """Whether a book may have these parts together."""
    try:
        Book(**parts)
    except WayError:
        return False
    return True


def draw_row(random, kind):
    """A row out of all, more often one with a test."""
    tests = [row for row in ROWS[kind] if "look" in row or "try" in row]
    return random.choice(tests if tests and random.random() < 0.4 else ROWS[kind])


def draw_book(random):
    """A book out of all."""
    while True:
        parts = {kind: draw_row(random, kind) for kind in KINDS}
        parts.update(fails=random.choice(FAILS), shared=random.random() < 0.5, settles=random.random() < 0.5,
                     holds=[kind for kind in KINDS if random.random() < 0.4], batch=random.choice([1, 1, 2, 3, 5]))
        if fits(parts):
            return Book(**parts)


def run_on(book, parents=(), limits=()):
    """A run of the book with these groups, and these pairs of a group and its limit."""
    run = Run(book)
    for parent in parents:
        run.new_group(parent)
    for group, number in limits:
        run.set_limit(group, number)
    return run


def words_to_the_end(run, hand):
    """The words that the hand's steps tell until its walk is over."""
    found = []
    while run.walk(hand) is not None:
        found.append(run.step(hand))
    return found


def taken(run, hand, group):
    """The thing that the hand takes to the group, when the walk is over."""
    thing = run.take(hand, group)
    words_to_the_end(run, hand)
    return thing


def counts(run):
    return [run.count(group) for group in range(len(run.tree))]


def shown(run):
    """All that a run tells of itself, by its interface."""
    groups, things, hands = range(len(run.tree)), range(run.things), range(100)
    return {"parents": run.tree.parents(), "struck": run.tree.struck(), "counts": counts(run),
            "limits": [run.limit_of(one) for one in groups], "things": run.things,
            "homes": [run.home(one) for one in things], "lives": [run.lives(one) for one in things],
            "stocks": [run.stock(one) for one in hands], "walks": [run.walk(one) for one in hands],
            "working": run.working(), "at_rest": run.at_rest, "log": run.log()}


METHODS = {"group": ("new_group", ["group"]), "limit": ("set_limit", ["group", "number"]),
           "strike": ("strike", ["group"]), "take": ("take", ["hand", "group"]), "give": ("give", ["hand", "thing"]),
           "move": ("move", ["hand", "thing", "group"]), "lift": ("lift", ["hand", "thing"]),
           "settle": ("settle", ["hand", "other"]), "step": ("step", ["hand"])}


def ways_to_do(run, deed):
    """The deed by its method, by its method with names, and as a deed, each as a call without arguments."""
    name, names = METHODS[deed[0]]
    method = getattr(run, name)
    return [lambda: method(*deed[1:]), lambda: method(**dict(zip(names, deed[1:]))), lambda: run.do(deed),
            lambda: run.do(deed=deed)]


class RunChecks(Checks):

    def assert_fault(self, run, error, values, *deeds):
        """Each of the deeds raises just this error, in whatever way it is told, and nothing changes."""
        before = shown(run)
        for deed in deeds:
            for call in ways_to_do(run, deed):
                self.assert_raises(error, values, call)
                self.assert_same(shown(run), before)

    def assert_does(self, run, deed, wanted):
        """The deed returns this, in whatever way it is told, and does the same, and is in the log."""
        before, ends = shown(run), []
        for call in ways_to_do(run, deed):
            self.assert_same(call(), wanted)
            ends.append(shown(run))
            self.assert_same(run.log(), before["log"] + [deed])
            if len(ends) < 4:
                run.undo()
                self.assert_same(shown(run), before)
        for end in ends:
            self.assert_same(end, ends[0])
