"""Ranks and traps: whether nobody waits for ever, and whether what is charged to a struck group can leave it."""

from chargeways.audits import charged, is_unit, sight
from chargeways.badruns import run_by
from chargeways.charts import best_sums, shortest_ways, way_by
from chargeways.checks import is_an_integer, is_between
from chargeways.helps import check_help_wish, helping_deeds, helps, kept_chart
from chargeways.states import START, check_state, deeds_from, told_of_states
from chargeways.stories import Story, told_part


def is_asked(wish, state):
    """Whether the wish asks anything of the state."""
    return wish == "free" or state[0] == 1


def helped(book, wish, state):
    """The sorted list of the next states to which deeds that help lead, each once."""
    check_help_wish(wish)
    check_state(book, state)
    kept_chart(book)
    return sorted({after for _, _, after in helping_deeds(book, wish, state)})


def states_ahead(book, wish, chart):
    """A dict from each state that is asked to the list of those from which a deed that helps leads to it."""
    ahead = {state: [] for state in chart if is_asked(wish, state)}
    for state in list(ahead):
        for deed, _, after in chart[state]:
            if helps(book, wish, state, deed):
                ahead[after].append(state)
    return ahead


def found_ranks(book, wish, chart, totals):
    """A dict from each state from which deeds that help lead to the sum 0 to how many it takes."""
    ahead = states_ahead(book, wish, chart)
    found = {state: 0 for state in ahead if totals[state] == 0}
    level = list(found)
    rank = 0
    while level:
        rank += 1
        before = [state for after in level for state in ahead[after]]
        level = sorted({state for state in before if state not in found})
        for state in level:
            found[state] = rank
    return found


def unranked(wish, states, found):
    """The list of those of the states that the wish asks about and from which no deeds that help lead to the sum 0."""
    return [state for state in states if is_asked(wish, state) and state not in found]


def are_all_ranked(book, wish, chart):
    """Whether a book with this chart, which keeps "once" and "kept", keeps the wish."""
    return unranked(wish, chart, found_ranks(book, wish, chart, best_sums(chart, 1))) == []


def is_sure(book, wish):
    """Whether the book keeps the wish "free" or "gone"."""
    check_help_wish(wish)
    return are_all_ranked(book, wish, kept_chart(book))


def ranks(book, wish):
    """Ranks that show that the book keeps the wish, None if it does not."""
    check_help_wish(wish)
    chart = kept_chart(book)
    totals = best_sums(chart, 1)
    found = found_ranks(book, wish, chart, totals)
    if unranked(wish, chart, found) != []:
        return None
    return [(state, totals[state], found.get(state)) for state in sorted(chart)]


def is_rank(wish, state, value):
    """Whether the value may be told as the rank of the state."""
    if not is_asked(wish, state):
        return value is None
    return is_an_integer(value) and value >= 0


def are_ranks(book, wish, value):
    """Whether any value is a list of ranks that shows that the book keeps the wish."""
    check_help_wish(wish)
    kept_chart(book)
    found = told_of_states(book, value, 3)
    if found is None:
        return False
    if not all([is_an_integer(total) and is_rank(wish, state, rank) for state, (total, rank) in found.items()]):
        return False
    if START not in found or found[START][0] != 0:
        return False
    return all([sum_holds(book, found, state) and rank_holds(book, wish, found, state) for state in found])


def sum_holds(book, found, state):
    """Whether all next states are told of, with sums that have grown by the weights."""
    total = found[state][0]
    return all([after in found and found[after][0] == total + weight for _, weight, after in deeds_from(book, state)])


def rank_holds(book, wish, found, state):
    """Whether the rank of the state is 0 with the sum 0, or above that of a state to which a deed that helps leads."""
    total, rank = found[state]
    if rank is None:
        return True
    if rank == 0:
        return total == 0
    return any([found[after][1] < rank for _, _, after in helping_deeds(book, wish, state)])


def trap(book, wish):
    """A trap that shows that the book does not keep the wish, None if it does."""
    check_help_wish(wish)
    chart = kept_chart(book)
    found = found_ranks(book, wish, chart, best_sums(chart, 1))
    ways = shortest_ways(told_part(book, chart))
    ends = unranked(wish, ways, found)
    return trap_behind(book, wish, way_by(ways, ends[0])) if len(ends) > 0 else None


def trap_behind(book, wish, way):
    """The trap for the unit that has gone this way."""
    story = Story(book, way)
    unit = story.unit()
    first = sight(story.run, story.group, unit)
    pairs = pairs_from(book, wish, first, charge_of_one(story.run, story.group, unit))
    return story.run.log(), story.group, unit, pairs


def charge_of_one(run, group, unit):
    """What the thing, or one charge of the stock, charges at the group."""
    found = charged(run, group, unit)
    return found if is_an_integer(unit) else min(found, 1)


def pairs_from(book, wish, first, total):
    """The sorted list of the tuples (state, sum) of the state, and of all to which deeds that help lead from it."""
    found = {}
    todo = [(first, total)]
    while todo:
        state, here = todo.pop()
        if state not in found:
            found[state] = here
            todo.extend([(after, here + weight) for _, weight, after in helping_deeds(book, wish, state)])
    return [(state, found[state]) for state in sorted(found)]


def told_pairs(book, wish, value):
    """The dict of the sums that a list of tuples (state, sum) tells, None if it is no such list for a trap."""
    told = told_of_states(book, value, 2)
    if told is None or not all([is_asked(wish, state) for state in told]):
        return None
    found = {state: told[state][0] for state in told}
    return found if all([is_an_integer(found[state]) and found[state] != 0 for state in found]) else None


def pair_holds(book, wish, found, state):
    """Whether all states to which deeds that help lead are told of, with sums that have grown by the weights."""
    return all([after in found and found[after] == found[state] + weight
                for _, weight, after in helping_deeds(book, wish, state)])


def is_trap(book, wish, value):
    """Whether any value is a trap that shows that the book does not keep the wish."""
    check_help_wish(wish)
    kept_chart(book)
    if not isinstance(value, tuple) or len(value) != 4:
        return False
    deeds, group, unit, pairs = value
    run = run_by(book, deeds)
    if run is None or not is_between(group, 1, len(run.tree) - 1) or not is_unit(run, unit):
        return False
    found = told_pairs(book, wish, pairs)
    if found is None or not all([pair_holds(book, wish, found, state) for state in found]):
        return False
    return found.get(sight(run, group, unit)) == charge_of_one(run, group, unit)
