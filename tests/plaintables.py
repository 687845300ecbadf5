"""Tables in plain words, to hold the real ones against: DOC.md points 61 to 64, 71 to 73 and 81, word by word."""

from chargeways.states import START
from plainstates import NAMES, plain_deeds

# no sum with an end comes near to this; one without an end grows up to it
FAR = 16
NEAR = 9


class PlainTable:

    def __init__(self, book):
        self.book = book
        self.behind = {}
        to_do = [START]
        while to_do:
            state = to_do.pop()
            if state not in self.behind:
                self.behind[state] = plain_deeds(book, state)
                to_do += [after for _, _, after in self.behind[state]]
        self.states = sorted(self.behind)

    def sums(self):
        """All sums of each state, up to FAR, and the fewest deeds to each of them."""
        found = {(START, 0): 0}
        level, many = [(START, 0)], 0
        while level:
            many += 1
            after = []
            for state, total in level:
                for _, weight, next_state in self.behind[state]:
                    pair = (next_state, total + weight)
                    if pair not in found and abs(pair[1]) <= FAR:
                        found[pair] = many
                        after.append(pair)
            level = after
        return found

    def ends(self):
        """The least and the greatest sum of each state."""
        every = {state: [] for state in self.states}
        for state, total in self.sums():
            every[state].append(total)
        return {state: (None if min(totals) < -NEAR else min(totals), None if max(totals) > NEAR else max(totals))
                for state, totals in every.items()}

    def passed(self, wish):
        """By how much each sum of each state at rest passes the wish, with the fewest deeds to it."""
        found = []
        for (state, total), many in self.sums().items():
            if plain_rest(state):
                found.append((total - plain_due(state) if wish == "once" else plain_due(state) - total, many))
        return found

    def excess(self, wish):
        most = max(number for number, _ in self.passed(wish))
        return None if most > NEAR else most

    def fewest(self, wish):
        found = [many for number, many in self.passed(wish) if number > 0]
        return min(found) if found else None

    def keeps(self, wish):
        return all(number <= 0 for number, _ in self.passed(wish))

    def unsure(self, wish):
        """The states from which no deeds that help lead to the sum 0, of a book that keeps "once" and "kept"."""
        totals = {state: total for state, total in self.sums()}
        asked = [state for state in self.states if wish == "free" or state[0] == 1]
        sure = {state for state in asked if totals[state] == 0}
        grown = True
        while grown:
            more = {state for state in asked if state not in sure
                    and any(after in sure for after in plain_helped(self.book, wish, state))}
            sure |= more
            grown = more
        return [state for state in asked if state not in sure]


def plain_rest(state):
    return not any(state[3:]) and state[1] in (0, 1, 3)


def plain_due(state):
    return 1 if state[1] == 1 and state[2] in (1, 2) else 0


def plain_needs_test(book, state, kind):
    """Point 71: whether the word that is next in the walk needs a test."""
    told = dict(zip(NAMES, state))[kind]
    row, place = book.row(kind), told[0]
    if row[place] == "look" or row[place] == "try":
        return True
    if place == 0 or row[place - 1] not in ("look", "try"):
        return False
    if kind == "take":
        return told[1] == 1
    return told[2] == 1 and (book.shared or told[1] != 1)


def plain_helps(book, wish, state, deed):
    needs = deed[0] == "word" and deed[1] in ("take", "move") and plain_needs_test(book, state, deed[1])
    if wish == "free":
        late = "look" in book.row("take") and book.row("take").index("look") > book.row("take").index("add")
        return deed != ("strike",) and not (needs and deed[1] == "move") and not (needs and deed[1] == "take" and late)
    if deed[0] == "begin" and deed[1] in ("take", "give", "move"):
        return False
    return deed[0] != "use" and not needs and (book.settles or deed != ("begin", "settle"))


def plain_helped(book, wish, state):
    """The sorted list of the next states to which deeds that help lead."""
    return sorted({after for deed, _, after in plain_deeds(book, state) if plain_helps(book, wish, state, deed)})


def plain_are_numbers(book, wish, entries):
    """Point 63, of a list of tuples of states and integers."""
    told = dict(entries)
    if len(told) != len(entries) or START not in told:
        return False
    for state, number in entries:
        for _, weight, after in plain_deeds(book, state):
            if after not in told:
                return False
            if told[after] < number + weight if wish == "once" else told[after] > number + weight:
                return False
        if plain_rest(state):
            if number > plain_due(state) if wish == "once" else number < plain_due(state):
                return False
    return told[START] >= 0 if wish == "once" else told[START] <= 0


def plain_are_ranks(book, wish, entries):
    """Point 72, of a list of tuples of states, integers, and COUNTS or None."""
    told = {state: (total, rank) for state, total, rank in entries}
    if len(told) != len(entries) or START not in told or told[START][0] != 0:
        return False
    if any((rank is None) != (wish == "gone" and state[0] == 0) for state, _, rank in entries):
        return False
    for state, total, rank in entries:
        for _, weight, after in plain_deeds(book, state):
            if after not in told or told[after][0] != total + weight:
                return False
        if rank is None:
            continue
        if rank == 0:
            if total != 0:
                return False
        elif not any(told[after][1] < rank for after in plain_helped(book, wish, state)):
            return False
    return True


def plain_are_pairs(book, wish, entries):
    """Point 73, of the pairs of a trap, a list of tuples of states and integers."""
    told = dict(entries)
    if len(told) != len(entries) or 0 in told.values():
        return False
    for state, total in entries:
        if wish == "gone" and state[0] == 0:
            return False
        for deed, weight, after in plain_deeds(book, state):
            if plain_helps(book, wish, state, deed) and told.get(after) != total + weight:
                return False
    return True


def plain_form(book):
    """Point 81: L and E, or None."""
    ahead, behind = [0], [0]
    for kind, number in (("take", book.batch), ("move", 1)):
        row = book.row(kind)
        if "add" in row and "look" not in row:
            return None
        if "add" in row and row.index("look") < row.index("add"):
            ahead.append(number)
        elif "add" in row:
            behind.append(number)
            if book.fails == "leave":
                return None
    return max(ahead), max(behind)
