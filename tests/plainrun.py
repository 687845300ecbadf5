"""A run in plain words, to hold the real one against: each walk is a Python generator, and to take a deed back all
others are done again. It follows DOC.md points 31 to 36, 41 to 44 and the interface word by word, without a care for
speed."""

WAY_WORDS = ("look", "add", "try", "off")


class Fault(Exception):
    """An error that the document asks for: its name and its attributes."""

    def __init__(self, name, **values):
        Exception.__init__(self, name, values)
        self.name = name
        self.values = values


def is_number(value):
    return isinstance(value, int) and value is not True and value is not False


class PlainWalk:

    def __init__(self, kind, row, thing, group, number):
        self.kind, self.row, self.thing, self.group, self.number = kind, row, thing, group, number
        self.old = None
        self.passed = []
        self.undone = []
        self.has_failed = False
        self.next = None


class PlainRun:

    def __init__(self, book):
        self.book = book
        self.redo([])

    def redo(self, deeds):
        """Begin anew, and do these."""
        self.parents, self.struck, self.counts, self.limits = [None], [], [0], [None]
        self.things, self.stocks, self.walks, self.charges, self.deeds = [], {}, {}, [], []
        self.takes = []
        for deed in deeds:
            self.do(deed)

    # ways

    def way(self, group):
        return [group] if group == 0 else [group] + self.way(self.parents[group])

    def place(self, group, seen):
        return 2 if group == seen else 1 if seen in self.way(group) else 3

    def side(self, group, seen):
        return 1 if seen in self.way(group) else 0

    def groups(self, walk, word):
        """The groups of the word, [None] if it has nothing to do with groups, None if the way is not known yet."""
        if walk.kind == "lift":
            return [walk.group] if word != "set" else [None]
        if word not in WAY_WORDS:
            return [None]
        if walk.kind in ("take", "settle"):
            return self.way(walk.group)
        if walk.old is None and (word == "off" or not self.book.shared):
            return None
        way = self.way(walk.old if word == "off" else walk.group)
        if walk.kind == "move" and not self.book.shared:
            both = [step for step in self.way(walk.old) if step in self.way(walk.group)]
            return [step for step in way if step not in both]
        return way

    # walks

    def going(self, walk, hand):
        """The walk yields its next single deed, and does it when it is gone on with; self.told tells what it did."""
        added = []
        for word in walk.row:
            for group in self.groups(walk, word):
                yield word, group
                while word in ("look", "try") and not self.lets(walk, group, added):
                    if self.book.fails != "wait":
                        self.told = "fail"
                        yield from self.failing(walk, added)
                        return
                    self.told = "wait"
                    yield word, group
                self.told = word
                self.effect(walk, hand, word, group)
                walk.passed.append((word, group))
                if word in ("add", "try"):
                    added.append(group)

    def lets(self, walk, group, added):
        own = walk.number if group in added else 0
        return self.limits[group] is None or self.limits[group] >= self.counts[group] + walk.number - own

    def failing(self, walk, added):
        walk.has_failed = True
        if self.book.fails == "undo":
            for group in added:
                yield "undo", group
                self.told = "undo"
                self.change(walk, group, -1)
                walk.undone.append(group)

    def change(self, walk, group, by):
        self.counts[group] += by * walk.number
        if walk.thing is not None:
            self.charges[walk.thing][group] = self.charges[walk.thing].get(group, 0) + by

    def effect(self, walk, hand, word, group):
        if word in ("add", "try"):
            self.change(walk, group, 1)
        if word in ("off", "both"):
            self.change(walk, group, -1)
        if word == "live":
            self.things[walk.thing] = [True, walk.group]
            if self.book.batch > 1:
                self.stocks[hand] = (walk.group, self.book.batch - 1)
        if word == "home":
            walk.old = self.things[walk.thing][1]
        if word in ("set", "both"):
            self.things[walk.thing][1] = walk.group if walk.kind == "move" else self.parents[walk.group]
        if word == "end":
            self.things[walk.thing][0] = False

    def begin(self, hand, kind, thing, group, number):
        row = ("off",) if kind == "settle" else self.book.row(kind)
        walk = PlainWalk(kind, row, thing, group, number)
        walk.going = self.going(walk, hand)
        self.go_on(walk)
        self.walks[hand] = walk
        return walk

    def go_on(self, walk):
        walk.next = next(walk.going, None)

    # deeds

    def do(self, deed):
        if not self.is_deed(deed):
            raise Fault("InvalidDeed", value=deed)
        found = getattr(self, "do_" + deed[0])(*deed[1:])
        if found != "wait":
            self.deeds.append(deed)
        return found

    def is_deed(self, deed):
        sizes = {"group": 2, "limit": 3, "strike": 2, "take": 3, "give": 3, "move": 4, "lift": 3, "settle": 3,
                 "step": 2}
        if not isinstance(deed, tuple) or not deed or not isinstance(deed[0], str) or sizes.get(deed[0]) != len(deed):
            return False
        return all(is_number(one) or (one is None and deed[0] == "limit" and at == 1)
                   for at, one in enumerate(deed[1:]))

    def undo(self):
        if not self.deeds:
            raise Fault("NothingToUndo")
        last = self.deeds[-1]
        self.redo(self.deeds[:-1])
        return last

    def need_group(self, group):
        if not is_number(group) or not 0 <= group < len(self.parents):
            raise Fault("InvalidGroup", value=group)

    def need_hand(self, hand):
        if not is_number(hand) or not 0 <= hand <= 99:
            raise Fault("InvalidHand", value=hand)

    def need_thing(self, thing):
        if not is_number(thing) or not 0 <= thing < len(self.things):
            raise Fault("InvalidThing", value=thing)

    def need_free(self, hand, stock_lets=False):
        if hand in self.walks:
            raise Fault("AtWork", hand=hand)
        if hand in self.stocks and not stock_lets:
            raise Fault("MustSettle", hand=hand)

    def need_row(self, kind):
        if not self.book.row(kind):
            raise Fault("NoRow", kind=kind)

    def need_life(self, thing):
        if not self.things[thing] or not self.things[thing][0]:
            raise Fault("NotLiving", thing=thing)

    def need_alone(self, thing, kind):
        others = [walk.kind for walk in self.walks.values() if walk.thing == thing]
        if kind in others:
            raise Fault("UnderWay", thing=thing, kind=kind)
        for other in ("take", "give", "move", "lift"):
            if kind in self.book.holds and other in self.book.holds and other in others:
                raise Fault("Held", thing=thing, kind=other)

    def do_group(self, group):
        self.need_group(group)
        if group in self.struck:
            raise Fault("Struck", group=group)
        if len(self.parents) == 200:
            raise Fault("TooMany", what="groups", limit=200)
        self.parents.append(group)
        self.counts.append(0)
        self.limits.append(None)
        return len(self.parents) - 1

    def do_limit(self, group, number):
        self.need_group(group)
        if number is not None and not is_number(number):
            raise Fault("InvalidLimit", value=number)
        self.limits[group] = number

    def do_strike(self, group):
        self.need_group(group)
        if group == 0:
            raise Fault("IsTop")
        if group in self.struck:
            raise Fault("Struck", group=group)
        for child, parent in enumerate(self.parents):
            if parent == group and child not in self.struck:
                raise Fault("HasChildren", group=group)
        self.struck.append(group)

    def do_take(self, hand, group):
        self.need_hand(hand)
        self.need_group(group)
        self.need_free(hand, stock_lets=True)
        if group in self.struck:
            raise Fault("Struck", group=group)
        if hand in self.stocks and self.stocks[hand][0] != group:
            raise Fault("MustSettle", hand=hand)
        if len(self.things) == 1000:
            raise Fault("TooMany", what="things", limit=1000)
        thing = len(self.things)
        self.charges.append({})
        self.things.append(None)
        self.takes.append(None)
        if hand in self.stocks:
            self.things[thing] = [True, group]
            self.charges[thing] = {step: 1 for step in self.way(group)}
            left = self.stocks.pop(hand)[1] - 1
            if left:
                self.stocks[hand] = (group, left)
        else:
            self.takes[thing] = self.begin(hand, "take", thing, group, self.book.batch)
        return thing

    def do_give(self, hand, thing):
        self.need_hand(hand)
        self.need_thing(thing)
        self.need_free(hand)
        self.need_life(thing)
        self.need_alone(thing, "give")
        self.begin(hand, "give", thing, None, 1)

    def do_move(self, hand, thing, group):
        self.need_hand(hand)
        self.need_thing(thing)
        self.need_group(group)
        self.need_free(hand)
        self.need_row("move")
        self.need_life(thing)
        if group in self.struck:
            raise Fault("Struck", group=group)
        self.need_alone(thing, "move")
        self.begin(hand, "move", thing, group, 1)

    def do_lift(self, hand, thing):
        self.need_hand(hand)
        self.need_thing(thing)
        self.need_free(hand)
        self.need_row("lift")
        self.need_life(thing)
        home = self.things[thing][1]
        if home not in self.struck:
            raise Fault("NotStruck", group=home)
        self.need_alone(thing, "lift")
        self.begin(hand, "lift", thing, home, 1)

    def do_settle(self, hand, other):
        self.need_hand(hand)
        self.need_hand(other)
        self.need_free(hand, stock_lets=other == hand)
        if other not in self.stocks:
            raise Fault("NoStock", hand=other)
        group, number = self.stocks[other]
        if other != hand and not (self.book.settles and group in self.struck):
            raise Fault("NotYours", hand=other)
        del self.stocks[other]
        self.begin(hand, "settle", None, group, number)

    def do_step(self, hand):
        self.need_hand(hand)
        if hand not in self.walks:
            raise Fault("NoWalk", hand=hand)
        walk = self.walks[hand]
        self.told = None
        self.go_on(walk)
        if walk.next is None:
            del self.walks[hand]
        return self.told

    # what is told of it

    def shown(self):
        """All that a run tells of itself."""
        homes = [None if told is None else told[1] for told in self.things]
        walks = {hand: (walk.kind, walk.thing, *walk.next) for hand, walk in self.walks.items()}
        return {"parents": self.parents[1:], "struck": sorted(self.struck), "counts": self.counts,
                "limits": self.limits, "things": len(self.things), "homes": homes,
                "lives": [told is not None and told[0] for told in self.things],
                "stocks": [self.stocks.get(hand) for hand in range(100)],
                "walks": [walks.get(hand) for hand in range(100)], "working": sorted(self.walks),
                "at_rest": not self.walks and not self.stocks, "log": self.deeds}

    def units(self):
        """All things and stocks."""
        return list(range(len(self.things))) + [("stock", hand) for hand in sorted(self.stocks)]

    def due(self, group):
        return len([told for told in self.things if told is not None and told[0] and self.side(told[1], group)])

    def wrong_groups(self):
        rest = not self.walks and not self.stocks
        return [group for group, count in enumerate(self.counts) if rest and count != self.due(group)]

    def charged(self, group, unit):
        if is_number(unit):
            return self.charges[unit].get(group, 0)
        home, number = self.stocks[unit[1]]
        return number if group in self.way(home) else 0

    def spare(self, group):
        """Reckoned from the walks, and not as the count less the rest."""
        found = 0
        for walk in self.walks.values():
            if walk.kind == "settle" and group in self.way(walk.group) and ("off", group) not in walk.passed:
                found += walk.number
        for thing, take in enumerate(self.takes):
            if self.things[thing] is None:
                adds = [step for word, step in take.passed if word in ("add", "try") and step == group]
                found += (self.book.batch - 1) * (len(adds) - take.undone.count(group))
        return found

    def is_done(self, walk, at, seen):
        """Point 44: whether the word is done as it is seen from the group seen."""
        groups = self.groups(walk, walk.row[at])
        if groups and seen in groups and walk.kind != "lift":
            return (walk.row[at], seen) in walk.passed
        return self.has_passed_all(walk, at)

    def has_passed_all(self, walk, at):
        groups = self.groups(walk, walk.row[at])
        if groups is None:
            return False
        if groups == []:
            return self.has_passed_all(walk, at - 1)
        return (walk.row[at], groups[-1]) in walk.passed

    def shown_walk(self, walk, seen):
        parts = {"take": [walk.group], "give": [walk.old], "move": [walk.old, walk.group], "lift": [walk.group]}
        told = [-1 if group is None else self.side(group, seen) for group in parts[walk.kind]]
        if walk.has_failed:
            to_come = [group for word, group in walk.passed if word in ("add", "try") and group not in walk.undone]
            return (-1, *[0] * len(told)) if seen in to_come else ()
        if walk.kind == "lift":
            told = [self.place(walk.group, seen)]
        done = [self.is_done(walk, at, seen) for at in range(len(walk.row))]
        return () if all(done) else (done.index(False), *told)

    def sight(self, group, unit):
        struck = int(group in self.struck)
        if not is_number(unit):
            return (struck, 2, self.place(self.stocks[unit[1]][0], group), (), (), (), (), ())
        walks = {walk.kind: self.shown_walk(walk, group) for walk in self.walks.values() if walk.thing == unit}
        shown = [walks.get(kind, ()) for kind in ("take", "give", "move", "lift")]
        if self.things[unit] is None:
            take = self.takes[unit]
            going = take in self.walks.values() and (not take.has_failed or shown[0] != ())
            return (struck, 0 if going else 3, 0, *shown, ())
        return (struck, 1 if self.things[unit][0] else 3, self.place(self.things[unit][1], group), *shown, ())
