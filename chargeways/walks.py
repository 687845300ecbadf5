"""Walks that are under way, and what each of their single deeds does on the board of a run."""

from chargeways.rows import CHANGES, TESTS


class Walk:
    """A walk under way; it never changes, as each single deed puts another one in its place.

    Its thing is None in a settle; many is how many charges it adds or takes off at a group; todo is the list of the
    single deeds that are known to come; added is the tuple of the groups at which it has added.
    """

    def __init__(self, course, thing, many, todo, added=()):
        self.course = course
        self.thing = thing
        self.many = many
        self.todo = todo
        self.added = added

    def has_failed(self):
        """Whether a test has failed, so that only "undo" is still to come."""
        return self.todo[0][0] == "undo"


def words_until_home(words):
    """The words up to "home"; where those behind it lead is known only when the home is remembered."""
    return words[:words.index("home") + 1] if "home" in words else words


def begin_walk(board, hand, course, thing, many):
    """Begin the walk of the hand."""
    todo = course.single_deeds(board.told("tree"), words_until_home(course.words))
    board.put(("walk", hand), Walk(course, thing, many, todo))


def is_let(board, walk, group):
    """Whether the limit of the group lets the walk go on."""
    limit = board.told(("limit", group))
    own = walk.many if group in walk.added else 0
    return limit is None or limit >= board.told(("count", group), 0) + walk.many - own


def change_count(board, walk, word, group):
    """Do to the count of the group, and to what the thing charges there, what the word does."""
    change = CHANGES[word]
    board.grow(("count", group), change * walk.many)
    if walk.thing is not None:
        board.grow(("charge", group, walk.thing), change)


def home_behind(board, course):
    """The home to which a move or a lift sets its thing."""
    return board.told("tree").parent(course.group) if course.kind == "lift" else course.group


def change_thing(board, hand, walk, word):
    """Do to the thing what the word does."""
    if word == "live":
        board.put(("lives", walk.thing), True)
        board.put(("home", walk.thing), walk.course.group)
        if walk.many > 1:
            board.put(("stock", hand), (walk.course.group, walk.many - 1))
    elif word == "set" or word == "both":
        board.put(("home", walk.thing), home_behind(board, walk.course))
    elif word == "end":
        board.put(("lives", walk.thing), None)


def walk_behind(board, walk, word, group):
    """The walk behind this word at the group, the first one that it had to do."""
    if word == "home":
        words = walk.course.words
        course = walk.course.remembering(board.told(("home", walk.thing)))
        todo = course.single_deeds(board.told("tree"), words[words.index("home") + 1:])
        return Walk(course, walk.thing, walk.many, todo, walk.added)
    added = (*walk.added, group) if word == "add" or word == "try" else walk.added
    return Walk(walk.course, walk.thing, walk.many, walk.todo[1:], added)


def put_walk(board, hand, walk):
    """Put the walk in the place of the one that the hand had; a walk with nothing to do is over."""
    board.put(("walk", hand), walk if len(walk.todo) > 0 else None)


def fail_walk(board, hand, walk, fails):
    """Let the walk do what it does if a test fails; return the word for it."""
    if fails == "wait":
        return "wait"
    undos = [("undo", group) for group in walk.added] if fails == "undo" else []
    put_walk(board, hand, Walk(walk.course, walk.thing, walk.many, undos, walk.added))
    return "fail"


def step_walk(board, hand, fails):
    """Do the next single deed of the hand's walk; return its word, "fail" or "wait"."""
    walk = board.told(("walk", hand))
    word, group = walk.todo[0]
    if word in TESTS and not is_let(board, walk, group):
        return fail_walk(board, hand, walk, fails)
    if word in CHANGES:
        change_count(board, walk, word, group)
    change_thing(board, hand, walk, word)
    put_walk(board, hand, walk_behind(board, walk, word, group))
    return word
