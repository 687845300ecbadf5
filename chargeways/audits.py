"""Audits: what is counted in a run, what is due, and how one thing, or a charge of a stock, stands to a group."""

from chargeways.checks import is_an_integer, is_between, is_hand, is_word
from chargeways.errors import InvalidGroup, InvalidUnit
from chargeways.states import GONE, IN_STOCK, LIVES, NEW
from chargeways.trees import check_group

# how the states tell the place of a group
PLACES = {"below": 1, "here": 2, "out": 3}


def is_thing(run, value):
    """Whether this is the number of a thing."""
    return is_between(value, 0, run.things - 1)


def is_stock(run, value):
    """Whether this tells the stock of a hand that has one."""
    if not isinstance(value, tuple) or len(value) != 2:
        return False
    word, hand = value
    return is_word(word, ("stock",)) and is_hand(hand) and run.stock(hand) is not None


def is_unit(run, value):
    """Whether this tells a thing or a stock of the run."""
    return is_thing(run, value) or is_stock(run, value)


def check_unit(run, value):
    """Raise InvalidUnit unless the value tells a thing or a stock of the run."""
    if not is_unit(run, value):
        raise InvalidUnit(value)


def dues(run):
    """The list of the dues of all groups."""
    tree = run.tree
    found = [0] * len(tree)
    for thing in range(run.things):
        if run.lives(thing):
            for group in tree.way(run.home(thing)):
                found[group] += 1
    return found


def due(run, group):
    """How many things are due at the group."""
    check_group(run.tree, group)
    return dues(run)[group]


def gap(run, group):
    """The count of the group less its due."""
    return run.count(group) - due(run, group)


def wrong_groups(run):
    """The sorted list of the groups whose count is not their due, none unless the run is at rest."""
    if not run.at_rest:
        return []
    return [group for group, number in enumerate(dues(run)) if run.count(group) != number]


def spare(run, group):
    """What the count of the group has besides all that things and stocks charge there."""
    check_group(run.tree, group)
    settled = [walk for walk in run.walks_under_way() if walk.course.kind == "settle"]
    left = sum([walk.many for walk in settled if ("off", group) in walk.todo])
    never_lived = [thing for thing in range(run.things) if run.home(thing) is None]
    return left + (run.book.batch - 1) * sum([run.charge(group, thing) for thing in never_lived])


def charged(run, group, unit):
    """What the thing, or the stock, charges at the group."""
    check_group(run.tree, group)
    check_unit(run, unit)
    if is_an_integer(unit):
        return run.charge(group, unit)
    home, number = run.stock(unit[1])
    return number * side(run.tree, home, group)


def side(tree, group, seen):
    """1 if the way of the group goes through the group seen, else 0."""
    return 0 if tree.place(group, seen) == "out" else 1


def place_number(tree, group, seen):
    """The place of the group as it is seen from the group seen, as a number."""
    place = tree.place(group, seen)
    return PLACES[place]


def words_done(tree, walk, seen):
    """How many words of a walk whose tests held are done, as it is seen from the group seen."""
    word = walk.todo[0][0]
    has_passed = seen in walk.course.groups(tree, word) and (word, seen) not in walk.todo
    return walk.course.words.index(word) + (1 if has_passed else 0)


def sides(tree, course, seen):
    """What a state tells of the groups of a walk that goes by this course, as they are seen from the group seen."""
    old = -1 if course.old is None else side(tree, course.old, seen)
    match course.kind:
        case "take":
            return [side(tree, course.group, seen)]
        case "give":
            return [old]
        case "move":
            return [old, side(tree, course.group, seen)]
        case "lift":
            return [place_number(tree, course.group, seen)]


def shown_walk(tree, walk, seen):
    """The walk as a state shows it at the group seen, () if it is not shown there."""
    told = sides(tree, walk.course, seen)
    if walk.has_failed():
        return (-1, *[0 for _ in told]) if ("undo", seen) in walk.todo else ()
    place = words_done(tree, walk, seen)
    return (place, *told) if place < len(walk.course.words) else ()


def life(run, thing, take):
    """The life of the thing, whose take is shown so."""
    if run.lives(thing):
        return LIVES
    return NEW if run.home(thing) is None and take != () else GONE


def sight_of_thing(run, group, thing):
    """The state that shows how the thing stands to the group."""
    tree = run.tree
    shown = {"take": (), "give": (), "move": (), "lift": ()}
    for walk in run.walks_under_way():
        if walk.thing == thing:
            shown[walk.course.kind] = shown_walk(tree, walk, group)
    home = run.home(thing)
    told_home = 0 if home is None else place_number(tree, home, group)
    struck = 1 if tree.is_struck(group) else 0
    return (struck, life(run, thing, shown["take"]), told_home,
            shown["take"], shown["give"], shown["move"], shown["lift"], ())


def sight_of_stock(run, group, hand):
    """The state that shows how a charge of the hand's stock stands to the group."""
    home, _ = run.stock(hand)
    struck = 1 if run.tree.is_struck(group) else 0
    return (struck, IN_STOCK, place_number(run.tree, home, group), (), (), (), (), ())


def sight(run, group, unit):
    """The state that shows how the thing, or a charge of the stock, stands to the group, which is not the top."""
    check_group(run.tree, group)
    if group == 0:
        raise InvalidGroup(group)
    check_unit(run, unit)
    return sight_of_thing(run, group, unit) if is_an_integer(unit) else sight_of_stock(run, group, unit[1])
