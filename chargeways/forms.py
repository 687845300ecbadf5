"""Forms: by how much a limit is passed at most, and crowds, which pass it by just that."""

from chargeways.checks import is_an_integer, is_list
from chargeways.crowds import crowd_run
from chargeways.errors import InvalidCount, LimitError, NoEnd, StandError, WayError
from chargeways.rows import look_is_behind
from chargeways.runs import Run

MOST_CROWD = 20


def check_hands(value):
    """Raise InvalidCount unless the value is an integer greater than 0."""
    if not is_an_integer(value) or value <= 0:
        raise InvalidCount(value)


def kinds_that_add(book):
    """The list of the kinds of walks that have "add", the one with the greatest n first."""
    return [kind for kind in ("take", "move") if "add" in book.row(kind)]


def is_endless(book, kind):
    """Whether walks of this kind, which have "add", pass a limit without end."""
    row = book.row(kind)
    return "look" not in row or look_is_behind(row) and book.fails == "leave"


def kind_that_looks(book, behind):
    """The kind with the greatest n whose "look" stands behind its "add", or ahead of it; None if there is none."""
    for kind in kinds_that_add(book):
        if look_is_behind(book.row(kind)) == behind:
            return kind
    return None


def number_of(book, kind):
    """How many charges a walk of this kind adds at a group, 0 of none."""
    if kind is None:
        return 0
    return book.batch if kind == "take" else 1


def form(book):
    """The tuple (L, E) of the greatest n of a walk that looks ahead of its "add", and behind; None without an end."""
    if any([is_endless(book, kind) for kind in kinds_that_add(book)]):
        return None
    return number_of(book, kind_that_looks(book, False)), number_of(book, kind_that_looks(book, True))


def most_above(book, hands):
    """The greatest number by which a count is above a limit with so many hands; None if there is no end."""
    check_hands(hands)
    found = form(book)
    if found is None:
        return None
    ahead, behind = found
    return (hands - 1) * ahead + hands * behind


def crowd(book, hands):
    """The deeds of a run with so many hands in which a count is above a limit by the greatest number."""
    check_hands(hands)
    if hands > MOST_CROWD:
        raise InvalidCount(hands)
    if form(book) is None:
        raise NoEnd()
    run = crowd_run(book, hands, kind_that_looks(book, False), kind_that_looks(book, True))
    return run.log()


def is_crowd(book, hands, value):
    """Whether any value is a list of deeds of a run in which so many hands are a crowd."""
    check_hands(hands)
    most = most_above(book, hands)
    if most is None:
        raise NoEnd()
    if not is_list(value):
        return False
    run = Run(book)
    for deed in value:
        if not is_done(run, deed) or len(run.working()) > hands:
            return False
        if deed[0] == "limit" and run.things > 0:
            return False
    return any([is_passed(run, group, most) for group in range(len(run.tree))])


def is_done(run, deed):
    """Do the value, if it is a deed that can be done; return whether it is."""
    try:
        run.do(deed)
    except (WayError, StandError, LimitError):
        return False
    return True


def is_passed(run, group, most):
    """Whether the group has a limit as a crowd needs it, and its count is above it by just so much."""
    limit = run.limit_of(group)
    if limit is None or limit <= 0 or limit % run.book.batch != 0:
        return False
    return run.count(group) - limit == most
