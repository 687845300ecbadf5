"""Courses: by what words a walk goes, and through which groups each of them leads it."""

from chargeways.rows import WAY_WORDS


class Course:
    """What a walk goes by; it never changes.

    The group is that of a take or of a stock, the target of a move, or the home from which a lift lifts; old is the
    home that is remembered, None ahead of that.
    """

    def __init__(self, kind, words, group=None, old=None, leaves_out=False):
        self.kind = kind
        self.words = words
        self.group = group
        self.old = old
        self.leaves_out = leaves_out

    def groups(self, tree, word):
        """The list of the groups of the word, one behind another; [None] of a word that has nothing to do with any."""
        if self.kind == "lift":
            return [self.group] if word in ("off", "both") else [None]
        if word not in WAY_WORDS:
            return [None]
        begin, other = self.group, self.old
        if word == "off" and self.kind != "settle":
            begin, other = self.old, self.group
        return tree.apart(begin, other) if self.leaves_out else tree.way(begin)

    def single_deeds(self, tree, words):
        """The list of the single deeds (word, group) of these words of the walk."""
        return [(word, group) for word in words for group in self.groups(tree, word)]

    def remembering(self, home):
        """The course on which this home is remembered."""
        return Course(self.kind, self.words, self.group, home, self.leaves_out)


def take_course(book, group):
    """What a take to the group goes by."""
    return Course("take", book.row("take"), group)


def give_course(book, old=None):
    """What a give goes by, with the home that is remembered."""
    return Course("give", book.row("give"), None, old)


def move_course(book, group, old=None):
    """What a move to the group goes by, with the home that is remembered."""
    return Course("move", book.row("move"), group, old, not book.shared)


def lift_course(book, group):
    """What a lift from the group goes by."""
    return Course("lift", book.row("lift"), group)


def settle_course(group):
    """What a settle of a stock of the group goes by."""
    return Course("settle", ("off",), group)
