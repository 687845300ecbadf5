"""Holds that are enough for wishes, the least of them, and books that come to the same."""

from chargeways.books import check_holds
from chargeways.charts import best_sums, breach, chart_of
from chargeways.checks import are_different_words, is_list
from chargeways.errors import InvalidWishes
from chargeways.forms import form
from chargeways.helps import HELP_WISHES
from chargeways.rows import ROW_KINDS
from chargeways.states import rests
from chargeways.tables import SUM_WISHES
from chargeways.traps import are_all_ranked

WISHES = ("once", "kept", "free", "gone")


def check_wishes(value):
    """Raise InvalidWishes unless the value is a list of different wishes."""
    if not is_list(value) or not are_different_words(value, WISHES):
        raise InvalidWishes(value)


def kept_wishes(book, chart):
    """The list of all wishes that the book, whose chart this is, keeps; "free" and "gone" only with the other two."""
    kept = [wish for wish in SUM_WISHES if breach(chart, wish) is None]
    if len(kept) < len(SUM_WISHES):
        return kept
    return kept + [wish for wish in HELP_WISHES if are_all_ranked(book, wish, chart)]


def keeps_all(book, wishes):
    """Whether the book keeps all of the wishes."""
    # without a wish nobody has to know the table
    if len(wishes) == 0:
        return True
    kept = kept_wishes(book, chart_of(book))
    return all([wish in kept for wish in wishes])


def is_enough(book, holds, wishes):
    """Whether the book with these holds instead keeps all of the wishes."""
    check_holds(holds)
    check_wishes(wishes)
    return keeps_all(book.with_holds(holds), wishes)


def least_holds(book, wishes):
    """The sorted list of the holds that are enough for the wishes, and have no others that are enough within them."""
    check_wishes(wishes)
    every = [()]
    for kind in ROW_KINDS:
        every = every + [(*holds, kind) for holds in every]
    enough = [holds for holds in every if keeps_all(book.with_holds(holds), wishes)]
    return sorted([holds for holds in enough if not any([is_within(other, holds) for other in enough])])


def is_within(holds, others):
    """Whether the holds are a part of the others, and not all of them."""
    return holds != others and all([kind in others for kind in holds])


def greatest_at_rest(best):
    """A dict from each life and home of states at rest to the greatest of their sums, None if one has no end."""
    found = {}
    for state, value in best.items():
        if rests(state):
            place = state[1:3]
            if place not in found:
                found[place] = value
            elif value is None or found[place] is None:
                found[place] = None
            else:
                found[place] = max(found[place], value)
    return found


def are_alike(one, other):
    """Whether both books have the same sums at rest, keep the same wishes, and pass limits by the same."""
    charts = (chart_of(one), chart_of(other))
    for sign in (1, -1):
        first, second = [greatest_at_rest(best_sums(chart, sign)) for chart in charts]
        if first != second:
            return False
    return kept_wishes(one, charts[0]) == kept_wishes(other, charts[1]) and form(one) == form(other)
