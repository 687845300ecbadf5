"""All errors of the package: three classes in front, and behind each one those of its kind.

Each error has a constructor of its own, so that it takes just its attributes and nothing else.
"""


class WayError(ValueError):
    """A value that is passed is not as it has to be."""


class InvalidGroup(WayError):
    """A value that is not the number of a group."""

    def __init__(self, value):
        self.value = value


class InvalidParents(WayError):
    """Parents that are no list, or one of them that is no group ahead of its child."""

    def __init__(self, position):
        self.position = position


class InvalidStruck(WayError):
    """Struck groups that are no list, or one of them that cannot be struck so."""

    def __init__(self, position):
        self.position = position


class InvalidKind(WayError):
    """A value that is not one of the kinds of walks."""

    def __init__(self, value):
        self.value = value


class InvalidRow(WayError):
    """A value that is not a row of the kind."""

    def __init__(self, kind, value):
        self.kind = kind
        self.value = value


class InvalidWord(WayError):
    """A value that is not one of the words for the part of this name."""

    def __init__(self, name, value):
        self.name = name
        self.value = value


class InvalidHolds(WayError):
    """A value that is not a list of different kinds that may hold a thing."""

    def __init__(self, value):
        self.value = value


class InvalidHand(WayError):
    """A value that is not the number of a hand."""

    def __init__(self, value):
        self.value = value


class InvalidThing(WayError):
    """A value that is not the number of a thing."""

    def __init__(self, value):
        self.value = value


class InvalidLimit(WayError):
    """A value that is not a limit."""

    def __init__(self, value):
        self.value = value


class InvalidCount(WayError):
    """A value that is not a count within its bounds."""

    def __init__(self, value):
        self.value = value


class InvalidUnit(WayError):
    """A value that is neither a thing nor the stock of a hand."""

    def __init__(self, value):
        self.value = value


class InvalidState(WayError):
    """A value that is not a state of the book."""

    def __init__(self, value):
        self.value = value


class InvalidWish(WayError):
    """A value that is not one of the wishes that may be asked."""

    def __init__(self, value):
        self.value = value


class InvalidWishes(WayError):
    """A value that is not a list of different wishes."""

    def __init__(self, value):
        self.value = value


class InvalidDeed(WayError):
    """A value that does not tell a deed."""

    def __init__(self, value):
        self.value = value


class InvalidText(WayError):
    """A text whose line of this number is not as it has to be."""

    def __init__(self, line):
        self.line = line


class InvalidClaim(WayError):
    """A value that is not a claim."""

    def __init__(self, value):
        self.value = value


class InvalidCommand(WayError):
    """A value that is not a command."""

    def __init__(self, value):
        self.value = value


class StandError(RuntimeError):
    """What is asked cannot be done as things stand."""


class IsTop(StandError):
    """The group is the top."""

    def __init__(self):
        pass


class Struck(StandError):
    """The group is struck."""

    def __init__(self, group):
        self.group = group


class NotStruck(StandError):
    """The group is not struck."""

    def __init__(self, group):
        self.group = group


class HasChildren(StandError):
    """The group has a child that is not struck."""

    def __init__(self, group):
        self.group = group


class AtWork(StandError):
    """The hand has a walk."""

    def __init__(self, hand):
        self.hand = hand


class NoWalk(StandError):
    """The hand has no walk."""

    def __init__(self, hand):
        self.hand = hand


class MustSettle(StandError):
    """The hand has a stock that has to be settled first."""

    def __init__(self, hand):
        self.hand = hand


class NoStock(StandError):
    """The hand has no stock."""

    def __init__(self, hand):
        self.hand = hand


class NotYours(StandError):
    """The stock of this hand may not be settled by another one."""

    def __init__(self, hand):
        self.hand = hand


class NotLiving(StandError):
    """The thing does not live."""

    def __init__(self, thing):
        self.thing = thing


class NoRow(StandError):
    """The row of this kind is empty."""

    def __init__(self, kind):
        self.kind = kind


class UnderWay(StandError):
    """A walk of this kind is under way on the thing."""

    def __init__(self, thing, kind):
        self.thing = thing
        self.kind = kind


class Held(StandError):
    """A walk of this kind holds the thing."""

    def __init__(self, thing, kind):
        self.thing = thing
        self.kind = kind


class NotKept(StandError):
    """The book does not keep the wish."""

    def __init__(self, wish):
        self.wish = wish


class NoEnd(StandError):
    """There is no greatest number."""

    def __init__(self):
        pass


class Untrue(StandError):
    """The claim is not true."""

    def __init__(self):
        pass


class NothingToUndo(StandError):
    """No deed is left that could be taken back."""

    def __init__(self):
        pass


class DeedFailed(StandError):
    """The deed at this place of a list failed."""

    def __init__(self, position):
        self.position = position


class CommandFailed(StandError):
    """The command at this place failed."""

    def __init__(self, position):
        self.position = position


class LimitError(ArithmeticError):
    """Something would grow beyond what the package takes."""


class TooMany(LimitError):
    """There would be more of these than the limit lets."""

    def __init__(self, what, limit):
        self.what = what
        self.limit = limit
