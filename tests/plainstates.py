"""States in plain words, to hold the real ones against: DOC.md points 51 and 52 and the interface, word by word."""

import itertools

NAMES = ("struck", "life", "home", "take", "give", "move", "lift", "settle")


def walks_shown(book, kind):
    """All that a state may show of a walk of the kind."""
    if kind == "settle":
        return [(), (0,), (1,)]
    places = range(len(book.row(kind)))
    behind = {"take": [(0, 1)], "give": [(-1, 0, 1)], "move": [(-1, 0, 1), (0, 1)], "lift": [(1, 2, 3)]}
    found = [(), *itertools.product(places, *behind[kind])]
    if kind == "take" or kind == "move" and len(places) > 0:
        found.append((-1, *[0] * len(behind[kind])))
    return found


def all_states(book):
    """All states of the book, also those to which no deeds lead."""
    shown = {kind: walks_shown(book, kind) for kind in NAMES[3:]}
    none = [()]
    for struck in (0, 1):
        for take in shown["take"]:
            yield (struck, 0, 0, take, (), (), (), ())
        for home in (1, 2, 3):
            yield (struck, 2, home, (), (), (), (), ())
        for life, homes, settles in ((1, (1, 2, 3), none), (3, (0, 1, 2, 3), shown["settle"])):
            for parts in itertools.product(homes, *[shown[kind] for kind in NAMES[3:7]], settles):
                yield (struck, life, *parts)


def draw_state(random, book):
    """One of all states of the book."""
    life = random.choice([0, 1, 1, 1, 2, 3, 3])
    home = {0: 0, 3: random.randrange(4)}.get(life, random.randrange(1, 4))
    lets = {0: ("take",), 1: NAMES[3:7], 2: (), 3: NAMES[3:]}[life]
    walks = [random.choice(walks_shown(book, kind)) if kind in lets and random.random() < 0.6 else ()
             for kind in NAMES[3:]]
    return (random.randrange(2), life, home, *walks)


def plain_deeds(book, state):
    """The sorted list of the deeds from the state."""
    now = dict(zip(NAMES, state))
    found = []

    def say(deed, weight, changes):
        found.append((deed, weight, tuple({**now, **changes}[name] for name in NAMES)))

    if now["struck"] == 0:
        say(("strike",), 0, {"struck": 1})
    sides = [0] if now["struck"] else [0, 1]
    if now["life"] == 0 and not now["take"]:
        for side in sides:
            say(("begin", "take", side), 0, {"take": (0, side)})
    if now["life"] == 1:
        for kind in ("give", "move", "lift"):
            others = [other for other in book.holds if now[other]]
            if not book.row(kind) or now[kind] or (kind in book.holds and others):
                continue
            if kind == "give":
                say(("begin", "give"), 0, {"give": (0, -1)})
            elif kind == "move":
                for side in sides:
                    say(("begin", "move", side), 0, {"move": (0, -1, side)})
            elif not (now["home"] == 2 and now["struck"] == 0):
                say(("begin", "lift"), 0, {"lift": (0, now["home"])})
    if now["life"] == 2:
        side = {1: 1, 2: 1, 3: 0}[now["home"]]
        say(("begin", "settle"), 0, {"life": 3, "settle": (side,)})
        if now["home"] == 3 or not now["struck"]:
            say(("use",), 0, {"life": 1})
    if now["settle"]:
        say(("word", "settle"), {0: 0, 1: -1}[now["settle"][0]], {"settle": ()})
    for kind in ("take", "give", "move", "lift"):
        if now[kind]:
            say_walk(book, now, kind, say)
    return sorted(found)


def say_walk(book, now, kind, say):
    row, (place, *told) = book.row(kind), now[kind]
    gone = {"life": 3} if kind == "take" else {}
    if place == -1:
        say(("undo", kind), -1, {kind: (), **gone})
        return
    left_out = kind == "move" and book.shared is False and told == [1, 1]

    def passes(word):
        if word not in ("look", "try", "add", "off") or left_out or kind == "lift":
            return False
        old_way = kind == "give" or kind == "move" and word == "off"
        return told[0 if old_way or kind == "take" else 1] == 1

    def weight(word):
        if kind == "lift":
            return -1 if word in ("off", "both") and told[0] == 2 else 0
        return {"add": 1, "try": 1, "off": -1}.get(word, 0) if passes(word) else 0

    word = row[place]
    behind = list(told)
    if word == "home":
        behind[0] = {0: 0, 1: 1, 2: 1, 3: 0}[now["home"]]
    walk = {kind: () if place + 1 == len(row) else (place + 1, *behind)}
    lives = {"end": [3], "live": [1, 2] if book.batch > 1 else [1]}.get(word, [now["life"]])
    homes = [now["home"]]
    if word == "live":
        homes = [1, 2] if told[0] == 1 else [3]
    if word in ("set", "both"):
        inner = told[0] == 1 if kind == "lift" else told[1] == 1
        homes = [1, 2] if inner else [3]
    for life, home in itertools.product(lives, homes):
        say(("word", kind), weight(word), {"life": life, "home": home, **walk})

    tests = word in ("look", "try") or place > 0 and row[place - 1] in ("look", "try") and passes(row[place - 1])
    if kind in ("take", "move") and tests and book.fails != "wait":
        if book.fails == "undo" and 1 in [weight(done) for done in row[:place]]:
            say(("fail", kind), 0, {kind: (-1, *[0] * len(told))})
        else:
            say(("fail", kind), 0, {kind: (), **gone})
