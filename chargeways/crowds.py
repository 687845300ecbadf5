"""Crowds: runs in which hands that look, or add, all at once pass the limit of a group."""

from chargeways.rows import look_is_behind
from chargeways.runs import Run
from chargeways.stories import finish_walk

# the group that a crowd fills, and another one, from which things are moved there
FULL = 1
ELSEWHERE = 2

# the first of the hands that look ahead all at once, of those that look behind all at once, and of those that fill
AHEAD_HANDS = 0
BEHIND_HANDS = 20
FILLING_HANDS = 40

# the hands that bring things to the other group, and that lift them from there
BRINGER = 98
LIFTER = 99


def crowd_run(book, hands, ahead, behind):
    """The run of a crowd of so many hands, by these kinds of walks that look ahead, and that look behind, or None."""
    run = Run(book)
    run.new_group(0)
    run.new_group(0)
    run.set_limit(FULL, book.batch)
    waiting = bring(run, hands) if behind == "move" else []
    if ahead == "take":
        for hand in begin_takes(run, AHEAD_HANDS, hands):
            finish_walk(run, hand)
    elif ahead == "move":
        rush_moves(run, hands - 1, behind)
    else:
        fill(run, 0)
    if behind == "take":
        begin_takes(run, BEHIND_HANDS, hands)
    elif behind == "move":
        begin_moves(run, BEHIND_HANDS, waiting)
    if behind is not None:
        for hand in range(BEHIND_HANDS, BEHIND_HANDS + hands):
            run.step(hand)
    return run


def bring(run, many):
    """Take so many things to the other group; return the list of them."""
    found = []
    for _ in range(many):
        found.append(run.take(BRINGER, ELSEWHERE))
        finish_walk(run, BRINGER)
    return found


def fill(run, above):
    """Take so many charges to the group that its limit is passed by this number, as soon as its room lets it."""
    rest = above % run.book.batch
    if rest > 0:
        # a whole batch is too much: what is too many of it goes back
        for _ in range(rest):
            run.take(FILLING_HANDS, FULL)
            finish_walk(run, FILLING_HANDS)
        run.settle(FILLING_HANDS)
        finish_walk(run, FILLING_HANDS)
    first = FILLING_HANDS + 1
    for hand in range(first, first + 1 + above // run.book.batch):
        run.take(hand, FULL)
        finish_walk(run, hand)


def step_until(run, hand, word):
    """Let the hand's walk go on until this word is the next one."""
    while run.walk(hand)[2] != word:
        run.step(hand)


def begin_takes(run, first, many):
    """Let so many hands from the first one on take things up to where they add; return the list of them."""
    hands = list(range(first, first + many))
    for hand in hands:
        run.take(hand, FULL)
        step_until(run, hand, "add")
    return hands


def begin_moves(run, first, things):
    """Let as many hands from the first one on move these things; those that look behind go on to where they add."""
    hands = list(range(first, first + len(things)))
    for hand, thing in zip(hands, things):
        run.move(hand, thing, FULL)
        row = run.book.row("move")
        if look_is_behind(row):
            step_until(run, hand, "add")
        else:
            step_until(run, hand, row[row.index("look") + 1])
    return hands


def rush_moves(run, many, behind):
    """Let so many hands look, then let the group be filled, and the hands add.

    A move that remembers its target as the home takes off there again. Where this comes first, more than the limit
    has room meanwhile; otherwise the move stands still behind what it has added, or a lift sets the home elsewhere.
    """
    row = run.book.row("move")
    things = bring(run, many)
    movers = begin_moves(run, AHEAD_HANDS, things)
    comes_back = "off" in row and row.index("set") < row.index("home")
    if comes_back and row.index("off") < row.index("add"):
        for hand in movers:
            step_until(run, hand, "add")
        fill(run, many)
    else:
        fill(run, 0)
    if comes_back and row.index("add") < row.index("off"):
        if behind is None:
            for hand in movers:
                step_until(run, hand, "off")
            return
        set_elsewhere(run, movers, things)
    for hand in movers:
        finish_walk(run, hand)


def set_elsewhere(run, movers, things):
    """Let lifts set the homes of the things before their moves remember them, if the book has such lifts."""
    row, holds = run.book.row("lift"), run.book.holds
    if "set" not in row and "both" not in row or "move" in holds and "lift" in holds:
        return
    run.strike(ELSEWHERE)
    for hand, thing in zip(movers, things):
        run.lift(LIFTER, thing)
        step_until(run, hand, "home")
        finish_walk(run, LIFTER)
