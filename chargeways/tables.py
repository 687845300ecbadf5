"""Tables: all states that a charge can come to have at a group, with which sums, and what that says of two wishes."""

from chargeways.charts import SIGNS, best_sums, breach, chart_of
from chargeways.checks import is_an_integer, is_word
from chargeways.errors import InvalidWish
from chargeways.states import START, deeds_from, due_of, rests, told_of_states

SUM_WISHES = ("once", "kept")


def check_sum_wish(value):
    """Raise InvalidWish unless the value is one of the wishes that sums decide."""
    if not is_word(value, SUM_WISHES):
        raise InvalidWish(value)


def table(book):
    """The sorted list of all states to which deeds lead from the start."""
    return sorted(chart_of(book))


def sums(book):
    """A dict from all states of the table to tuples (least sum, greatest sum), None for what has no end."""
    chart = chart_of(book)
    greatest = best_sums(chart, 1)
    # the least sum is the greatest one of all weights taken the other way
    least = {state: None if value is None else -value for state, value in best_sums(chart, -1).items()}
    return {state: (least[state], greatest[state]) for state in sorted(chart)}


def keeps(book, wish):
    """Whether the book keeps the wish "once" or "kept"."""
    check_sum_wish(wish)
    return breach(chart_of(book), wish) is None


def excess(book, wish):
    """The greatest number by which the wish is passed at a state at rest, None if there is no end."""
    check_sum_wish(wish)
    sign = SIGNS[wish]
    most = 0
    for state, value in best_sums(chart_of(book), sign).items():
        if rests(state):
            if value is None:
                return None
            most = max(most, value - sign * due_of(state))
    return most


def numbers(book, wish):
    """Numbers that show that the book keeps the wish, None if it does not."""
    check_sum_wish(wish)
    chart = chart_of(book)
    if breach(chart, wish) is not None:
        return None
    sign = SIGNS[wish]
    best = best_sums(chart, sign)
    return [(state, sign * best[state]) for state in sorted(chart)]


def are_numbers(book, wish, value):
    """Whether any value is a list of numbers that shows that the book keeps the wish."""
    check_sum_wish(wish)
    told = told_of_states(book, value, 2)
    if told is None or not all([is_an_integer(told[state][0]) for state in told]):
        return False
    # for "kept" all is asked the other way round
    sign = SIGNS[wish]
    found = {state: sign * told[state][0] for state in told}
    if START not in found or found[START] < 0:
        return False
    return all([number_holds(book, sign, found, state) for state in found])


def number_holds(book, sign, found, state):
    """Whether the number of the state, taken times the sign, is as those of its next states and its due let it be."""
    number = found[state]
    if rests(state) and number > sign * due_of(state):
        return False
    return all([after in found and found[after] >= number + sign * weight
                for _, weight, after in deeds_from(book, state)])


def fewest(book, wish):
    """How many deeds, at least, lead to a state at rest with a sum by which the wish is not kept, None if it is."""
    check_sum_wish(wish)
    way = breach(chart_of(book), wish)
    return None if way is None else len(way)
