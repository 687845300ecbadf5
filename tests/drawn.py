"""Drawn deeds and runs, and what the real run and the plain one tell when both do the same."""

from chargeways import audits
from chargeways.errors import LimitError, StandError, WayError
from chargeways.runs import Run
from common import draw_book
from plainrun import Fault, PlainRun

# how often each deed is drawn where it can be done
WEIGHTS = {"group": 3, "limit": 2, "strike": 2, "take": 3, "give": 2, "move": 3, "lift": 4, "settle": 2, "step": 20}

WORDS = tuple(WEIGHTS)


def draw_deed(random, run, hands=5, wrong=0.1):
    """A deed; most can be done, some cannot, and some values are none."""
    if random.random() < wrong / 4:
        return draw_no_deed(random)
    if random.random() < wrong * 3:
        return draw_any_deed(random, run, hands, wrong)
    found = likely_deeds(random, run, hands)
    kinds = [word for word in found if found[word]]
    return random.choice(found[random.choices(kinds, [WEIGHTS[word] for word in kinds])[0]])


def likely_deeds(random, run, hands):
    """Deeds of each kind that can most likely be done."""
    tree = run.tree
    open_groups = [group for group in range(len(tree)) if not tree.is_struck(group)]
    idle = [hand for hand in range(hands) if run.walk(hand) is None]
    stocks = [hand for hand in range(hands) if run.stock(hand) is not None]
    free = [hand for hand in idle if hand not in stocks]
    living = [thing for thing in range(run.things) if run.lives(thing)][-7:]
    lifted = [thing for thing in living if tree.is_struck(run.home(thing))]
    fitting = [group for group in open_groups if group > 0 and all(tree.is_struck(one) for one in tree.children(group))]
    return {"group": [("group", group) for group in open_groups if len(tree) < 7],
            "limit": [("limit", group, random.choice([None, run.count(group) + random.randrange(-1, 5)]))
                      for group in range(len(tree))],
            "strike": [("strike", group) for group in fitting],
            "take": [("take", hand, run.stock(hand)[0] if hand in stocks else group) for hand in idle
                     for group in open_groups],
            "give": [("give", hand, thing) for hand in free for thing in living],
            "move": [("move", hand, thing, group) for hand in free for thing in living for group in open_groups],
            "lift": [("lift", hand, thing) for hand in free for thing in lifted],
            "settle": [("settle", hand, hand) for hand in stocks] + [("settle", hand, other) for other in stocks
                                                                   for hand in free],
            "step": [("step", hand) for hand in run.working()]}


def draw_any_deed(random, run, hands, wrong):
    """A deed of the right form, which may well not be done."""
    def number(many):
        if random.random() < wrong:
            return random.choice([-1, many, many + 7, 100])
        return random.randrange(max(many, 1))

    groups, things, hand = len(run.tree), run.things, number(hands)
    thing = number(things) if random.random() < 0.3 else max(things - 6, 0) + number(min(things, 6))
    told = {"group": (number(groups),), "limit": (number(groups), random.choice([None, -1, 0, 1, 2, 3, 4, 6])),
            "strike": (number(groups),), "take": (hand, number(groups)), "give": (hand, thing),
            "move": (hand, thing, number(groups)), "lift": (hand, thing), "settle": (hand, number(hands)),
            "step": (hand,)}
    word = random.choice(WORDS)
    return (word, *told[word])


def draw_no_deed(random):
    """A value that is no deed, or nearly none."""
    word = random.choice(WORDS + ("undo", "count", "", None))
    values = [random.choice([0, 1, 2, None, True, False, "1", (1,), [0]]) for _ in range(random.randrange(5))]
    return random.choice([tuple([word, *values]), [word, *values], None, word, 1, (), {word: 1} if word else {}])


def answer(run, deed):
    """What the run answers to the deed: what it returns, or the name and the attributes of the error."""
    try:
        return ("done", run.do(deed))
    except (WayError, StandError, LimitError) as error:
        return (type(error).__name__, vars(error))
    except Fault as fault:
        return (fault.name, fault.values)


def units(run):
    """All things and stocks of the run."""
    return list(range(run.things)) + [("stock", hand) for hand in range(100) if run.stock(hand) is not None]


def audited(run):
    """All that the audits tell of a run."""
    groups = range(len(run.tree))
    return {"dues": [audits.due(run, group) for group in groups], "gaps": [audits.gap(run, group) for group in groups],
            "wrong": audits.wrong_groups(run), "spares": [audits.spare(run, group) for group in groups],
            "charged": [[audits.charged(run, group, unit) for unit in units(run)] for group in groups],
            "sights": [[audits.sight(run, group, unit) for unit in units(run)] for group in groups if group > 0]}


def plainly_audited(plain):
    """The same of the plain run."""
    groups = range(len(plain.parents))
    return {"dues": [plain.due(group) for group in groups],
            "gaps": [plain.counts[group] - plain.due(group) for group in groups], "wrong": plain.wrong_groups(),
            "spares": [plain.spare(group) for group in groups],
            "charged": [[plain.charged(group, unit) for unit in plain.units()] for group in groups],
            "sights": [[plain.sight(group, unit) for unit in plain.units()] for group in groups if group > 0]}


def drawn_pair(random, deeds, **options):
    """A real run and a plain one of a drawn book, and behind each drawn deed what both answer to it."""
    book = draw_book(random)
    run, plain = Run(book), PlainRun(book)
    for _ in range(deeds):
        deed = draw_deed(random, run, **options)
        yield run, plain, deed, answer(run, deed), answer(plain, deed)
