"""States: how one charge can stand to one group, and which deeds lead from one to others."""

from chargeways.checks import is_an_integer, is_between, is_list
from chargeways.errors import InvalidState
from chargeways.rows import CHANGES, TESTS

PARTS = ("struck", "life", "home", "take", "give", "move", "lift", "settle")

START = (0, 0, 0, (), (), (), (), ())

# the lives: the thing has not lived, it lives, its charge is in a stock, it is gone
NEW = 0
LIVES = 1
IN_STOCK = 2
GONE = 3

# the homes that may be told beside each life
HOMES = {0: (0,), 1: (1, 2, 3), 2: (1, 2, 3), 3: (0, 1, 2, 3)}

# the least and the greatest number of each part that a walk shows behind its place
SIDES = {"take": ((0, 1),), "give": ((-1, 1),), "move": ((-1, 1), (0, 1)), "lift": ((1, 3),)}

# how a walk is shown that still has to undo what it has added
UNDOING = {"take": (-1, 0), "move": (-1, 0, 0)}


def are_between(values, bounds):
    """Whether there are as many values as bounds, each an integer from the least to the most of its own."""
    if len(values) != len(bounds):
        return False
    return all([is_between(value, least, most) for value, (least, most) in zip(values, bounds)])


def is_shown_walk(book, kind, value):
    """Whether a state may show a walk of this kind, or that there is none, by the value."""
    # True and False are equal to numbers, so the kinds of the parts are asked first
    if not isinstance(value, tuple) or not all([is_an_integer(part) for part in value]):
        return False
    if value == ():
        return True
    if kind == "settle":
        return are_between(value, ((0, 1),))
    words = book.row(kind)
    if words != () and value == UNDOING.get(kind):
        return True
    return are_between(value, ((0, len(words) - 1), *SIDES[kind]))


def fits_life(parts):
    """Whether the home and the walks may stand beside the life."""
    life = parts["life"]
    if parts["home"] not in HOMES[life] or parts["settle"] != () and life != GONE:
        return False
    if life == IN_STOCK and parts["take"] != ():
        return False
    return life == LIVES or life == GONE or all([parts[kind] == () for kind in ("give", "move", "lift")])


def is_state(book, value):
    """Whether any value is a tuple that may be a state of the book, also one to which no deeds lead."""
    if not isinstance(value, tuple) or len(value) != len(PARTS):
        return False
    if not are_between(value[:3], ((0, 1), (0, 3), (0, 3))):
        return False
    parts = parts_of(value)
    return all([is_shown_walk(book, kind, parts[kind]) for kind in PARTS[3:]]) and fits_life(parts)


def check_state(book, value):
    """Raise InvalidState unless the value may be a state of the book."""
    if not is_state(book, value):
        raise InvalidState(value)


def told_of_states(book, value, size):
    """What a list of tuples of this size tells of its states, each once, as a dict; None if the value is none."""
    if not is_list(value):
        return None
    found = {}
    for entry in value:
        if not isinstance(entry, tuple) or len(entry) != size:
            return None
        state, *told = entry
        if not is_state(book, state) or state in found:
            return None
        found[state] = told
    return found


def parts_of(state):
    """The parts of the state by their names."""
    return dict(zip(PARTS, state))


def state_with(parts, changes):
    """The state of these parts, with some of them changed."""
    whole = {**parts, **changes}
    return tuple(whole.values())


def goes_through(book, kind, told, word):
    """Whether the word of a walk that is shown so goes through the group."""
    if kind == "lift":
        return told[1] == 2
    if kind != "move":
        return told[1] == 1
    _, old, target = told
    if not book.shared and old == 1 and target == 1:
        return False
    return old == 1 if word == "off" else target == 1


def weight(book, kind, told, word):
    """By how much the count of the group changes when the word of a walk that is shown so is done."""
    return CHANGES.get(word, 0) if goes_through(book, kind, told, word) else 0


def homes_on(side):
    """The homes that a thing may come to have on this side, 1 if it is not out of the group."""
    return (1, 2) if side == 1 else (3,)


def side_of(home):
    """The side of the home."""
    return 1 if home == 1 or home == 2 else 0


def changes_by(book, kind, parts, word):
    """The list of what may change when the word is done, besides the place of the walk."""
    told = parts[kind]
    if word == "live":
        lives = (LIVES, IN_STOCK) if book.batch > 1 else (LIVES,)
        return [{"life": life, "home": home} for life in lives for home in homes_on(told[1])]
    if word == "set" or word == "both":
        # the parent of a group below is below or the group itself, the parent of any other one is out
        return [{"home": home} for home in homes_on(told[2] if kind == "move" else told[1])]
    return [{"life": GONE}] if word == "end" else [{}]


def shown_behind(book, kind, parts, word):
    """How the walk is shown when the word is done."""
    place, *sides = parts[kind]
    if place + 1 == len(book.row(kind)):
        return ()
    if word == "home":
        sides[0] = side_of(parts["home"])
    return (place + 1, *sides)


def word_deeds(book, kind, parts):
    """The deeds that do the next word of the walk of this kind."""
    word = book.row(kind)[parts[kind][0]]
    by = weight(book, kind, parts[kind], word)
    shown = shown_behind(book, kind, parts, word)
    return [(("word", kind), by, state_with(parts, {**changes, kind: shown}))
            for changes in changes_by(book, kind, parts, word)]


def needs_test(book, kind, told):
    """Whether the next word of the walk needs a test: its own, or one that has passed the group already."""
    words = book.row(kind)
    place = told[0]
    if words[place] in TESTS:
        return True
    # behind the group, a test goes on at the groups above
    return place > 0 and words[place - 1] in TESTS and goes_through(book, kind, told, words[place - 1])


def over(kind, parts):
    """The state behind a walk that is over by a failed test."""
    return state_with(parts, {"life": GONE, kind: ()} if kind == "take" else {kind: ()})


def fail_deeds(book, kind, parts):
    """The deeds by which a test of the walk of this kind fails."""
    told = parts[kind]
    if book.fails == "wait" or not needs_test(book, kind, told):
        return []
    done = book.row(kind)[:told[0]]
    if book.fails == "undo" and any([weight(book, kind, told, word) == 1 for word in done]):
        return [(("fail", kind), 0, state_with(parts, {kind: UNDOING[kind]}))]
    return [(("fail", kind), 0, over(kind, parts))]


def walk_deeds(book, kind, parts):
    """The deeds of the walk of this kind, if one is under way."""
    told = parts[kind]
    if told == ():
        return []
    if told[0] == -1:
        return [(("undo", kind), -1, over(kind, parts))]
    return word_deeds(book, kind, parts) + fail_deeds(book, kind, parts)


def strike_deeds(parts):
    """The deed that strikes the group."""
    return [(("strike",), 0, state_with(parts, {"struck": 1}))] if parts["struck"] == 0 else []


def open_sides(parts):
    """The sides to which a take or a move may begin."""
    return (0, 1) if parts["struck"] == 0 else (0,)


def may_begin(book, kind, parts):
    """Whether a give, move or lift may begin on the thing, which lives."""
    if book.row(kind) == () or parts[kind] != ():
        return False
    if kind in book.holds and any([parts[other] != () for other in book.holds]):
        return False
    return kind != "lift" or parts["home"] != 2 or parts["struck"] == 1


def begin_deeds(book, parts):
    """The deeds by which walks begin, but those of a stock."""
    if parts["life"] == NEW and parts["take"] == ():
        return [(("begin", "take", side), 0, state_with(parts, {"take": (0, side)})) for side in open_sides(parts)]
    if parts["life"] != LIVES:
        return []
    found = []
    if may_begin(book, "give", parts):
        found.append((("begin", "give"), 0, state_with(parts, {"give": (0, -1)})))
    if may_begin(book, "move", parts):
        found.extend([(("begin", "move", side), 0, state_with(parts, {"move": (0, -1, side)}))
                      for side in open_sides(parts)])
    if may_begin(book, "lift", parts):
        found.append((("begin", "lift"), 0, state_with(parts, {"lift": (0, parts["home"])})))
    return found


def stock_deeds(parts):
    """The deeds by which a charge of a stock is used or settled."""
    found = []
    if parts["life"] == IN_STOCK:
        settle = (side_of(parts["home"]),)
        found.append((("begin", "settle"), 0, state_with(parts, {"life": GONE, "settle": settle})))
        if parts["home"] == 3 or parts["struck"] == 0:
            found.append((("use",), 0, state_with(parts, {"life": LIVES})))
    if parts["settle"] != ():
        found.append((("word", "settle"), -parts["settle"][0], state_with(parts, {"settle": ()})))
    return found


def deeds_from(book, state):
    """The sorted list of the tuples (deed, weight, next state), of what surely is a state."""
    parts = parts_of(state)
    found = strike_deeds(parts) + begin_deeds(book, parts) + stock_deeds(parts)
    for kind in ("take", "give", "move", "lift"):
        found.extend(walk_deeds(book, kind, parts))
    return sorted(found)


def deeds(book, state):
    """The sorted list of the tuples (deed, weight, next state)."""
    check_state(book, state)
    return deeds_from(book, state)


def nexts(book, state):
    """The sorted list of the next states, each once."""
    return sorted({state_behind for _, _, state_behind in deeds(book, state)})


def rests(state):
    """Whether what surely is a state is at rest."""
    return state[1] != IN_STOCK and state[3:] == START[3:]


def due_of(state):
    """The due of what surely is a state, 0 or 1."""
    return 1 if state[1] == LIVES and side_of(state[2]) == 1 else 0


def is_rest(book, state):
    """Whether the state is at rest."""
    check_state(book, state)
    return rests(state)


def due_at(book, state):
    """The due of the state, 0 or 1."""
    check_state(book, state)
    return due_of(state)
