"""The rows of words of which walks consist, and which of them a book may have."""

from chargeways.checks import are_different_words

ROW_KINDS = ("take", "give", "move", "lift")

# the words that go along a way, group by group, and those of them that ask whether the limit lets it
WAY_WORDS = ("look", "add", "try", "off")
TESTS = ("look", "try")

# by how much the count of a group changes with each word, for each charge of the walk
CHANGES = {"add": 1, "try": 1, "off": -1, "both": -1, "undo": -1}

LIFT_ROWS = ((), ("set",), ("off",), ("set", "off"), ("off", "set"), ("both",))


def has_words_of(value, words):
    """Whether this is a tuple of different ones of the words."""
    return isinstance(value, tuple) and are_different_words(value, words)


def tests_are_ahead(row, word):
    """Whether no test stands behind the word."""
    if word not in row:
        return True
    behind = row[row.index(word):]
    return "look" not in behind and "try" not in behind


def look_is_behind(row):
    """Whether "look" stands behind "add", so that what is added is asked about too late."""
    return "look" in row and "add" in row and row.index("look") > row.index("add")


def off_has_home(row):
    """Whether "home" stands ahead of "off"; without it nobody knows what way to go."""
    return "off" not in row or "home" in row[:row.index("off")]


def is_take_row(value):
    """Whether this is a row of a take, as for the batch 1."""
    if not has_words_of(value, ("live", "try", "add", "look")) or "live" not in value:
        return False
    if "try" in value:
        return value == ("try", "live")
    return "add" in value and tests_are_ahead(value, "live")


def is_give_row(value):
    """Whether this is a row of a give."""
    return has_words_of(value, ("end", "home", "off")) and "end" in value and off_has_home(value)


def is_move_row(value):
    """Whether this is a row of a move, as for shared True."""
    if not has_words_of(value, ("set", "home", "add", "look", "try", "off")):
        return False
    if value == ():
        return True
    if "set" not in value or "try" in value and ("add" in value or "look" in value):
        return False
    return off_has_home(value) and tests_are_ahead(value, "set") and tests_are_ahead(value, "off")


def is_lift_row(value):
    """Whether this is a row of a lift."""
    return has_words_of(value, ("set", "off", "both")) and value in LIFT_ROWS


ROW_CHECKS = {"take": is_take_row, "give": is_give_row, "move": is_move_row, "lift": is_lift_row}


def is_row(kind, value):
    """Whether this is a row of the kind by itself, as for the batch 1 and shared True."""
    check = ROW_CHECKS[kind]
    return check(value)


def fits_batch(row, batch):
    """Whether a row of a take may stand beside the batch."""
    return batch == 1 or row[-1] == "live"


def fits_shared(row, shared):
    """Whether a row of a move may stand beside this shared."""
    return shared or row == () or row[0] == "home"
