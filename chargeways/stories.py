"""Stories: a way through the table of a book, done by a run in which one thing stands so to one group.

The thing is the first one that is taken, and the group hangs deep enough for all that has to happen above it.
"""

from chargeways.audits import sight
from chargeways.rows import TESTS
from chargeways.runs import Run
from chargeways.states import IN_STOCK, goes_through, parts_of

THING = 0

# each kind of walk has a hand of its own; the one that takes comes to have the stock, too
TELLING_HANDS = {"take": 0, "give": 1, "move": 2, "lift": 3}

# deeds that no story needs, as what they lead to is had without them
NEVER_TOLD = (("use",), ("begin", "settle"), ("word", "settle"))


def can_be_told(book, state, deed, after):
    """Whether stories take this way from the state to the one after it."""
    if deed in NEVER_TOLD:
        return False
    parts = parts_of(state)
    if deed == ("word", "lift"):
        # groups below are children of the group, so that a lift from there ends here
        place, home = parts["lift"]
        return book.row("lift")[place] == "off" or home != 1 or after[2] != 1
    if deed == ("fail", "move") and not book.shared and parts["struck"] == 1:
        # a remembered home may be above, so that no group above it is left for the test
        place = parts["move"][0]
        word = book.row("move")[place - 1]
        return place == 0 or word not in TESTS or not goes_through(book, "move", parts["move"], word)
    return True


def told_part(book, chart):
    """What stories take of the chart."""
    return {state: [(deed, weight, after) for deed, weight, after in chart[state]
                    if can_be_told(book, state, deed, after)] for state in chart}


def strike_whole(run, group):
    """Strike the group, and ahead of it all below it, as far as they are not struck."""
    below = run.tree.all_below(group)
    for other in [*below[::-1], group]:
        if not run.tree.is_struck(other):
            run.strike(other)


def finish_walk(run, hand):
    """Do the hand's walk to its end, if it has one."""
    while run.walk(hand) is not None:
        run.step(hand)


class Story:
    """A run that does the way, so that behind each deed the thing is seen from the group as the way tells.

    Where a move leaves out all groups of a word, the thing is seen as behind that word already.
    """

    def __init__(self, book, way):
        self.run = Run(book)
        self._way = way
        # each lift goes up by one group, and none of them may come to the top
        self._deep = 2 + len([deed for _, deed, _ in way if deed == ("begin", "lift")])
        self.group = self._new_chain(self._deep)
        for position in range(len(way)):
            self._tell(position)

    def unit(self):
        """The unit that the end of the way tells of."""
        in_stock = len(self._way) > 0 and self._way[-1][2][1] == IN_STOCK
        return ("stock", TELLING_HANDS["take"]) if in_stock else THING

    def end(self):
        """Do all walks to their ends, and settle the stock."""
        for hand in self.run.working():
            finish_walk(self.run, hand)
        hand = TELLING_HANDS["take"]
        if self.run.stock(hand) is not None:
            self.run.settle(hand)
            finish_walk(self.run, hand)

    def _new_chain(self, many):
        """New groups, each below the one ahead of it, the first one below the top; return the last one."""
        group = 0
        for _ in range(many):
            group = self.run.new_group(group)
        return group

    def _tell(self, position):
        _, deed, after = self._way[position]
        if deed[0] == "strike":
            strike_whole(self.run, self.group)
        elif deed[0] == "begin":
            self._begin(position, deed)
        elif deed[0] == "fail":
            self._fail(deed[1])
        else:
            self._go(deed[1], after)

    def _begin(self, position, deed):
        kind = deed[1]
        self._finish_unseen()
        hand = TELLING_HANDS[kind]
        if kind == "take":
            self.run.take(hand, self._group_for(position, kind, deed[2]))
        elif kind == "give":
            self.run.give(hand, THING)
        elif kind == "move":
            self.run.move(hand, THING, self._group_for(position, kind, deed[2]))
        else:
            strike_whole(self.run, self.run.home(THING))
            self.run.lift(hand, THING)

    def _shown(self, kind):
        seen = parts_of(sight(self.run, self.group, THING))
        return seen[kind]

    def _finish_unseen(self):
        """Finish the walks that are still under way above the group, where they are not seen."""
        for kind, hand in TELLING_HANDS.items():
            if self.run.walk(hand) is not None and self._shown(kind) == ():
                finish_walk(self.run, hand)

    def _group_for(self, position, kind, side):
        """The group to which a take or a move that begins here has to go."""
        if side == 0:
            return self._new_chain(self._deep)
        home = self._home_behind(position, kind)
        return self.group if home == 2 else self.run.new_group(self.group)

    def _home_behind(self, position, kind):
        """The home to which the walk that begins here sets the thing, None if it does not come to that."""
        words = self.run.book.row(kind)
        for state, deed, after in self._way[position + 1:]:
            place = parts_of(state)[kind][0]
            if deed == ("word", kind) and words[place] in ("live", "set"):
                return after[2]
            if parts_of(after)[kind] == () or parts_of(after)[kind][0] == -1:
                return None
        return None

    def _go(self, kind, after):
        """Let the walk go on until it is seen as far as the state after it tells."""
        wanted = parts_of(after)[kind]
        hand = TELLING_HANDS[kind]
        while self._shown(kind) != () and (wanted == () or self._shown(kind)[0] < wanted[0]):
            self.run.step(hand)

    def _fail(self, kind):
        """Let the next test of the walk fail."""
        hand = TELLING_HANDS[kind]
        while self.run.walk(hand)[2] not in TESTS:
            self.run.step(hand)
        group = self.run.walk(hand)[3]
        self.run.set_limit(group, self.run.count(group) - 1)
        self.run.step(hand)
        self.run.set_limit(group, None)
