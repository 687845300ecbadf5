"""Charts: all states of the table of a book with the deeds that lead on from each, and what sums come of them.

A chart is a dict from states to the lists of their tuples (deed, weight, next state).
"""

from chargeways.errors import TooMany
from chargeways.states import START, deeds_from, due_of, rests

MOST_STATES = 4000

# greatest sums are looked for; of a wish that asks for least ones each weight is taken times -1
SIGNS = {"once": 1, "kept": -1}


def chart_of(book):
    """The chart of the table of the book."""
    chart = {}
    todo = [START]
    while todo:
        state = todo.pop()
        if state in chart:
            continue
        if len(chart) == MOST_STATES:
            raise TooMany("states", MOST_STATES)
        chart[state] = deeds_from(book, state)
        todo.extend([after for _, _, after in chart[state] if after not in chart])
    return chart


def best_sums(chart, sign):
    """A dict from each state to its greatest sum, each weight taken times the sign; None where there is no end."""
    best = {START: 0}
    ahead = {START: None}
    grown = [START]
    while grown:
        grown = grow(chart, sign, best, ahead, grown)
        state = state_on_a_ring(ahead)
        while state is not None:
            lose_end(chart, best, ahead, state)
            state = state_on_a_ring(ahead)
    return best


def grow(chart, sign, best, ahead, states):
    """Let the sums of these states go on to the next ones; return the list of those whose sums have grown by it."""
    grown = {}
    for state in states:
        # a sum without end has gone on to all states behind it already
        if best[state] is not None:
            for _, weight, after in chart[state]:
                value = best[state] + sign * weight
                if after not in best or best[after] is not None and best[after] < value:
                    best[after] = value
                    ahead[after] = state
                    grown[after] = True
    return list(grown)


def state_on_a_ring(ahead):
    """A state that comes behind itself, which lets its sum grow each time, None if there is none."""
    seen = {}
    for first in ahead:
        state = first
        while state is not None and state not in seen:
            seen[state] = first
            state = ahead[state]
        if state is not None and seen[state] == first:
            return state
    return None


def lose_end(chart, best, ahead, first):
    """Note that the sums of this state, and of all states behind it, have no end."""
    todo = [first]
    while todo:
        state = todo.pop()
        if state in best and best[state] is None:
            continue
        best[state] = None
        ahead.pop(state, None)
        todo.extend([after for _, _, after in chart[state]])


def breach(chart, wish):
    """The shortest way, a list of tuples (state, deed, next state), to a state at rest with a sum against the wish.

    None if there is none, so that the wish is kept.
    """
    sign = SIGNS[wish]
    best = {START: 0}
    levels = [{START: (0, None, None)}]
    while len(levels[-1]) > 0:
        level = next_level(chart, sign, best, levels[-1])
        levels.append(level)
        for state, (value, _, _) in level.items():
            if rests(state) and value > sign * due_of(state):
                return way_to(levels, state)
    return None


def next_level(chart, sign, best, level):
    """The states whose sums grow by one deed more, as a dict to tuples (sum, state ahead, deed)."""
    found = {}
    for first, (total, _, _) in level.items():
        for deed, weight, after in chart[first]:
            value = total + sign * weight
            if after in found and found[after][0] >= value or after in best and best[after] >= value:
                continue
            found[after] = (value, first, deed)
    for state, (value, _, _) in found.items():
        best[state] = value
    return found


def way_to(levels, end):
    """The way through all levels to the state in the last one."""
    way = []
    state = end
    for level in reversed(levels[1:]):
        _, first, deed = level[state]
        way.append((first, deed, state))
        state = first
    return way[::-1]


def shortest_ways(chart):
    """A dict from each state, the nearest first, to the tuple (state ahead, deed) that ends a shortest way to it."""
    ahead = {START: None}
    states = [START]
    while states:
        found = []
        for state in states:
            for deed, _, after in chart[state]:
                if after not in ahead:
                    ahead[after] = (state, deed)
                    found.append(after)
        states = found
    return ahead


def way_by(ahead, end):
    """The way to the state, by what shortest_ways tells."""
    way = []
    state = end
    while ahead[state] is not None:
        first, deed = ahead[state]
        way.append((first, deed, state))
        state = first
    return way[::-1]
