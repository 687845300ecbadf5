"""Runs: what hands do with things and groups, deed by deed, and how it is taken back."""

from chargeways.boards import Board
from chargeways.checks import HANDS, is_an_integer, is_between, is_hand, is_list
from chargeways.courses import give_course, lift_course, move_course, settle_course, take_course
from chargeways.deeds import is_deed
from chargeways.errors import (AtWork, DeedFailed, Held, InvalidDeed, InvalidHand, InvalidLimit, InvalidThing,
                               LimitError, MustSettle, NoRow, NoStock, NothingToUndo, NotLiving, NotStruck, NotYours,
                               NoWalk, StandError, Struck, TooMany, UnderWay, WayError)
from chargeways.trees import check_group
from chargeways.walks import begin_walk, step_walk

MOST_THINGS = 1000


def check_hand(value):
    """Raise InvalidHand unless the value is the number of a hand."""
    if not is_hand(value):
        raise InvalidHand(value)


def check_limit(value):
    """Raise InvalidLimit unless the value is a limit."""
    if value is not None and not is_an_integer(value):
        raise InvalidLimit(value)


class Run:
    """A run of a book, at first with the top alone."""

    def __init__(self, book):
        self._book = book
        self._board = Board()

    @property
    def book(self):
        """The book of the run."""
        return self._book

    @property
    def tree(self):
        """The tree as it is now."""
        return self._board.now["tree"]

    @property
    def at_rest(self):
        """Whether no hand has a walk or a stock."""
        return not any([(word, hand) in self._board.now for word in ("walk", "stock") for hand in range(HANDS)])

    @property
    def things(self):
        """How many things there are, also those that never lived or live no more."""
        return self._board.now["things"]

    def count(self, group):
        """The count of the group."""
        check_group(self.tree, group)
        return self._board.told(("count", group), 0)

    def limit_of(self, group):
        """The limit of the group, None if it has none."""
        check_group(self.tree, group)
        return self._board.told(("limit", group))

    def lives(self, thing):
        """Whether the thing lives."""
        self._check_thing(thing)
        return self._board.told(("lives", thing), False)

    def home(self, thing):
        """The home of the thing, the last one if it lives no more, None if it never lived."""
        self._check_thing(thing)
        return self._board.told(("home", thing))

    def stock(self, hand):
        """The stock of the hand, a tuple (group, number), None if it has none."""
        check_hand(hand)
        return self._board.told(("stock", hand))

    def walk(self, hand):
        """The walk of the hand, a tuple (kind, thing, word, group) of its next single deed, None if it has none."""
        check_hand(hand)
        walk = self._board.told(("walk", hand))
        if walk is None:
            return None
        word, group = walk.todo[0]
        return walk.course.kind, walk.thing, word, group

    def working(self):
        """The sorted list of the hands that have a walk."""
        return [hand for hand in range(HANDS) if self._board.told(("walk", hand)) is not None]

    def walks_under_way(self):
        """The list of the walks of all hands, as objects of the class Walk."""
        return [self._board.told(("walk", hand)) for hand in self.working()]

    def charge(self, group, thing):
        """What the thing charges at the group."""
        return self._board.told(("charge", group, thing), 0)

    def new_group(self, group):
        """Make a new group below this one; return its number."""
        grown = self.tree.with_group(group)
        self._board.put("tree", grown)
        self._board.close(("group", group))
        return len(grown) - 1

    def set_limit(self, group, number):
        """Set the limit of the group; None is no limit."""
        check_group(self.tree, group)
        check_limit(number)
        self._board.put(("limit", group), number)
        self._board.close(("limit", group, number))

    def strike(self, group):
        """Strike the group."""
        self._board.put("tree", self.tree.with_struck(group))
        self._board.close(("strike", group))

    def take(self, hand, group):
        """Let the hand take a new thing to the group; return the thing."""
        check_hand(hand)
        check_group(self.tree, group)
        self._check_idle(hand)
        if self.tree.is_struck(group):
            raise Struck(group)
        stock = self.stock(hand)
        if stock is not None and stock[0] != group:
            raise MustSettle(hand)
        thing = self.things
        if thing == MOST_THINGS:
            raise TooMany("things", MOST_THINGS)
        self._board.put("things", thing + 1)
        if stock is None:
            begin_walk(self._board, hand, take_course(self._book, group), thing, self._book.batch)
        else:
            self._take_by_stock(hand, thing)
        self._board.close(("take", hand, group))
        return thing

    def give(self, hand, thing):
        """Let the hand begin to give the thing."""
        check_hand(hand)
        self._check_thing(thing)
        self._check_may_begin(hand)
        self._check_lives(thing)
        self._check_alone(thing, "give")
        begin_walk(self._board, hand, give_course(self._book), thing, 1)
        self._board.close(("give", hand, thing))

    def move(self, hand, thing, group):
        """Let the hand begin to move the thing to the group."""
        check_hand(hand)
        self._check_thing(thing)
        check_group(self.tree, group)
        self._check_may_begin(hand)
        self._check_row("move")
        self._check_lives(thing)
        if self.tree.is_struck(group):
            raise Struck(group)
        self._check_alone(thing, "move")
        begin_walk(self._board, hand, move_course(self._book, group), thing, 1)
        self._board.close(("move", hand, thing, group))

    def lift(self, hand, thing):
        """Let the hand begin to lift the thing from its struck home."""
        check_hand(hand)
        self._check_thing(thing)
        self._check_may_begin(hand)
        self._check_row("lift")
        self._check_lives(thing)
        home = self.home(thing)
        if not self.tree.is_struck(home):
            raise NotStruck(home)
        self._check_alone(thing, "lift")
        begin_walk(self._board, hand, lift_course(self._book, home), thing, 1)
        self._board.close(("lift", hand, thing))

    def settle(self, hand, other=None):
        """Let the hand begin to settle the stock of the other hand, or its own one."""
        owner = hand if other is None else other
        check_hand(hand)
        check_hand(owner)
        self._check_idle(hand)
        if owner != hand:
            self._check_no_stock(hand)
        stock = self.stock(owner)
        if stock is None:
            raise NoStock(owner)
        group, number = stock
        if owner != hand and not (self._book.settles and self.tree.is_struck(group)):
            raise NotYours(owner)
        self._board.put(("stock", owner), None)
        begin_walk(self._board, hand, settle_course(group), None, number)
        self._board.close(("settle", hand, owner))

    def step(self, hand):
        """Do the next single deed of the hand's walk; return its word, "fail" or "wait"."""
        check_hand(hand)
        if self.walk(hand) is None:
            raise NoWalk(hand)
        word = step_walk(self._board, hand, self._book.fails)
        if word != "wait":
            self._board.close(("step", hand))
        return word

    def do(self, deed):
        """Do the deed that the tuple tells; return what its method returns."""
        if not is_deed(deed):
            raise InvalidDeed(deed)
        word, *numbers = deed
        match word:
            case "group":
                return self.new_group(*numbers)
            case "limit":
                return self.set_limit(*numbers)
            case "strike":
                return self.strike(*numbers)
            case "take":
                return self.take(*numbers)
            case "give":
                return self.give(*numbers)
            case "move":
                return self.move(*numbers)
            case "lift":
                return self.lift(*numbers)
            case "settle":
                return self.settle(*numbers)
            case "step":
                return self.step(*numbers)

    def do_all(self, deeds):
        """Do all of these deeds, or none if one fails; return the list of what they return."""
        if not is_list(deeds):
            raise InvalidDeed(None)
        before = self._board.how_many_done()
        found = []
        for position, deed in enumerate(deeds):
            try:
                found.append(self.do(deed))
            except (WayError, StandError, LimitError) as error:
                self._take_back_to(before)
                raise DeedFailed(position) from error
        return found

    def log(self):
        """The list of the deeds that were done and not taken back."""
        return self._board.deeds_done()

    def undo(self):
        """Take back the last deed; return it."""
        if self._board.how_many_done() == 0:
            raise NothingToUndo()
        return self._board.take_back()

    def copy(self):
        """A run of its own, equal in all."""
        other = Run(self._book)
        other._board = self._board.twin()
        return other

    def tried_by(self, action):
        """What the action returns for this run, which then is as it was."""
        kept = self._board
        self._board = kept.twin()
        try:
            return action(self)
        finally:
            self._board = kept

    def _take_by_stock(self, hand, thing):
        group, number = self.stock(hand)
        self._board.put(("lives", thing), True)
        self._board.put(("home", thing), group)
        for step in self.tree.way(group):
            self._board.put(("charge", step, thing), 1)
        self._board.put(("stock", hand), (group, number - 1) if number > 1 else None)

    def _take_back_to(self, many):
        while self._board.how_many_done() > many:
            self._board.take_back()

    def _check_thing(self, value):
        if not is_between(value, 0, self.things - 1):
            raise InvalidThing(value)

    def _check_idle(self, hand):
        if self.walk(hand) is not None:
            raise AtWork(hand)

    def _check_no_stock(self, hand):
        if self.stock(hand) is not None:
            raise MustSettle(hand)

    def _check_may_begin(self, hand):
        self._check_idle(hand)
        self._check_no_stock(hand)

    def _check_row(self, kind):
        if self._book.row(kind) == ():
            raise NoRow(kind)

    def _check_lives(self, thing):
        if not self.lives(thing):
            raise NotLiving(thing)

    def _check_alone(self, thing, kind):
        """Raise UnderWay or Held if other walks on the thing do not let one of this kind begin."""
        kinds = [walk.course.kind for walk in self.walks_under_way() if walk.thing == thing]
        if kind in kinds:
            raise UnderWay(thing, kind)
        held = [one for one in self._book.holds if one in kinds]
        if kind in self._book.holds and held != []:
            raise Held(thing, held[0])

